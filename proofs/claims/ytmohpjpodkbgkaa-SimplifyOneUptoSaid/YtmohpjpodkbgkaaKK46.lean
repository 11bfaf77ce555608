/- Layer 10: the law's own text; plain facts of awake. -/
import Derived.Test.YtmohpjpodkbgkaaKK45
import Derived.Test.YtmohpjpodkbgkaaKK28
import Derived.Test.YtmohpjpodkbgkaaKK41
import Derived.Test.YtmohpjpodkbgkaaKK20
import Derived.Test.YtmohpjpodkbgkaaKK25
import Derived.Test.YtmohpjpodkbgkaaKK27
import Derived.Test.YtmohpjpodkbgkaaKK31
namespace Go.Proofs.Ytmohpjpodkbgkaa.P10
open Go.RowKit Go.Proofs.Ytmohpjpodkbgkaa.Base Go.Proofs.Ytmohpjpodkbgkaa.Bytes Go.Proofs.Ytmohpjpodkbgkaa.P07 Go.Proofs.Ytmohpjpodkbgkaa.P08 Go.Proofs.Ytmohpjpodkbgkaa.P09
open Go.Proofs.Ytmohpjpodkbgkaa.Sets (ST)

/-- Two texts: the first one's simple expression is the second one. -/
def awS (F : Nat) (l : List UInt8) (G : Nat) (m : List UInt8) : Bool := match parse F l, parse G m with
  | .inr t, .inr u => sameB (simT t) u && decide (cnt t ≤ 1000)
  | _, _ => false
theorem awS_is {F G : Nat} {l m : List UInt8} (h : awS F l G m = true) : ∃ t u, parse F l = .inr t ∧ parse G m = .inr u ∧ simT t = u ∧ cnt t ≤ 1000 := by
  unfold awS at h
  split at h
  · rename_i t u h1 h2
    rw [Bool.and_eq_true, sameB_iff, decide_eq_true_eq] at h
    exact ⟨t, u, h1, h2, h.1, h.2⟩
  · cases h
theorem as1 : awS 11 [40, 97, 124, 98, 124, 99, 41, 40, 41] 7 [91, 97, 45, 99, 93] = true := by kernel_rfl
theorem as2 : awS 7 [40, 97, 43, 41, 42] 4 [97, 42] = true := by kernel_rfl
theorem as3 : awS 7 [97, 91, 93, 124, 98] 3 [98] = true := by kernel_rfl
def awR : Bool := match parse 3 [97] with
  | .inr t => decide ((repP t 2 3).mx = 3) && decide (cnt t ≤ 1000)
  | .inl _ => false
theorem as4 : awR = true := by kernel_rfl
theorem awR_is : ∃ t, parse 3 [97] = .inr t ∧ (repP t 2 3).mx = 3 ∧ cnt t ≤ 1000 := by
  have h := as4
  unfold awR at h
  split at h
  · rename_i t h1
    rw [Bool.and_eq_true, decide_eq_true_eq, decide_eq_true_eq] at h
    exact ⟨t, h1, h.1, h.2⟩
  · cases h
theorem as5 : rightB zT = false := by kernel_rfl
theorem as6 : (catT []).kind = 1 ∧ (altT []).kind = 2 := ⟨by kernel_rfl, by kernel_rfl⟩
theorem field_kind (t : T) (a : Option Addr) (c : Nat) (w : World) : (Instr.field 27 (nodeV t a c) 0).run Try.prog w = .ok (.int .i64 t.kind) w := by kernel_rfl
theorem field_max (t : T) (a : Option Addr) (c : Nat) (w : World) : (Instr.field 27 (nodeV t a c) 3).run Try.prog w = .ok (.int .i64 t.mx) w := by kernel_rfl

set_option maxRecDepth 100000 in
set_option maxHeartbeats 4000000 in
theorem text_any {F : Nat} {l : List UInt8} {t : T} (h : parse F l = .inr t) (hF : l.length + 2 ≤ F) (hl : l.length ≤ 100000000) (w : World) :
    Calls Try.prog 21 #[P07.str l] w (Gives w (fun _ => False) t) := by
  have r0 : Rb w w.heap.size (w.alloc (.cells nzeros 27)) := ⟨At.new w nzeros 27, (Keep.refl (fun _ => False) w).alloc _, Nat.le_refl _⟩
  have HP := Lib.hid (fun W => parse_right9 h hF hl W)
  have HR := Lib.hid r0
  clear r0 h hF hl
  go_enter Try.func21, Try.ntmps21
  go_upto_region 1 with fail
  generalize (w.alloc (.cells nzeros 27)) = W0 at *
  go_wp2_with fail
  refine (HP.out W0).mono ?_
  rintro e w1 ⟨a, c, rfl, hle, hlie, q1⟩
  have hsz := HR.out.out.lt
  have hsz1 := q1.size
  have R1 := Lib.hid (HR.out.next q1)
  have hlie2 : Lie w1 (fun k => (False ∨ w.heap.size ≤ k) ∧ k ≠ w.heap.size) a t.subs := hlie.mono fun k hk => ⟨.inr (by omega), by omega⟩
  have b1 := At.new w1 (ncells t a c) 27
  have q2 := (Keep.refl (fun _ => False) w1).alloc (.cells (ncells t a c) 27)
  have H2 := Lib.hid (And.intro (R1.out.next q2) (And.intro b1 (And.intro (hlie2.keepF q2) hle)))
  have hlt : w.heap.size < w1.heap.size := by omega
  clear hsz hsz1 hlie hlie2 b1 q1 q2 hle
  go_upto_region 2 with fail
  generalize (w1.alloc (.cells (ncells t a c) 27)) = W1 at *
  generalize w1.heap.size = n1 at *
  obtain ⟨⟨x0, x1, x2, x3, x4, x5, x6, x7⟩, -⟩ := cells8 H2.out.2.1
  obtain ⟨⟨d0, d1, d2, d3, d4, d5, d6, d7⟩, f0, f1, f2, f3, f4, f5, f6, f7⟩ := cells8 H2.out.1.out
  have hlt2 := H2.out.1.out.lt
  go_wp2_with fail
  change bodyPost _ _ _ _ _ (putNd W1 w.heap.size 0 t a c)
  have hP := H2.out.1.put t a c
  have hG := H2.out.1.gives (ok := fun _ => False) (t := t) H2.out.2.2.2 H2.out.2.2.1
  generalize (putNd W1 w.heap.size 0 t a c) = W9 at hP hG ⊢
  obtain ⟨⟨e0, e1, e2, e3, e4, e5, e6, e7⟩, -⟩ := cells8 hP.1
  exact bodyPost_ret (v := nodeV t a c) (by simp [results, Try.results21, go_sem, e0, e1, e2, e3, e4, e5, e6, e7]) rfl hG
end Go.Proofs.Ytmohpjpodkbgkaa.P10
/- Layer 10: awake answers true. -/
namespace Go.Proofs.Ytmohpjpodkbgkaa.P10
open Go.RowKit Go.Proofs.Ytmohpjpodkbgkaa.Base Go.Proofs.Ytmohpjpodkbgkaa.Bytes Go.Proofs.Ytmohpjpodkbgkaa.P07 Go.Proofs.Ytmohpjpodkbgkaa.P08 Go.Proofs.Ytmohpjpodkbgkaa.P09
open Go.Proofs.Ytmohpjpodkbgkaa.Sets (ST)

theorem same_yes (t : T) (a : Option Addr) (c : Nat) (b : Option Addr) (d : Nat) (w : World) (ha : Lie w (fun _ => True) a t.subs) (hb : Lie w (fun _ => True) b t.subs) :
    Calls Try.prog 11 #[nodeV t a c, nodeV t b d] w fun e w' => e = .returned (.bool true) ∧ Keep (fun _ => False) w w' := by
  refine (same_any t t a c b d w ha hb).mono ?_
  rintro e w' ⟨v, rfl, hv, q⟩
  rw [hv.2 rfl]
  exact ⟨rfl, q⟩

set_option maxRecDepth 100000 in
set_option maxHeartbeats 16000000 in
theorem awake_true (w : World) : Calls Try.prog 7 #[] w fun e w' => e = .returned (.bool true) ∧ Keep (fun _ => False) w w' := by
  obtain ⟨t1, A, hp1, hpA, hs1, hc1⟩ := awS_is as1
  obtain ⟨t2, B, hp2, hpB, hs2, hc2⟩ := awS_is as2
  obtain ⟨t3, C, hp3, hpC, hs3, hc3⟩ := awS_is as3
  obtain ⟨t4, hp4, hm4, hc4⟩ := awR_is
  have HQ := Lib.hid (And.intro (fun W => text_any hp1 (by decide) (by decide) W) (And.intro (fun W => text_any hp2 (by decide) (by decide) W) (fun W => text_any hp3 (by decide) (by decide) W)))
  have HT := Lib.hid (And.intro (fun W => text_any hpA (by decide) (by decide) W) (And.intro (fun W => text_any hpB (by decide) (by decide) W) (And.intro (fun W => text_any hpC (by decide) (by decide) W) (fun W => text_any hp4 (by decide) (by decide) W))))
  have m1 := fun a c W (hL : Lie W (fun _ => True) a t1.subs) hc => csimple_right t1 (read_right hp1) (by omega) a c (fun _ => True) W hL hc
  have m2 := fun a c W (hL : Lie W (fun _ => True) a t2.subs) hc => csimple_right t2 (read_right hp2) (by omega) a c (fun _ => True) W hL hc
  have m3 := fun a c W (hL : Lie W (fun _ => True) a t3.subs) hc => csimple_right t3 (read_right hp3) (by omega) a c (fun _ => True) W hL hc
  rw [hs1] at m1
  rw [hs2] at m2
  rw [hs3] at m3
  have hnz : ¬ RT 12 zT := fun h => by
    have := (rightB_iff (t := zT) (by rw [zT, SOk, SOkL]; exact ⟨ST.none_ok, trivial⟩)).2 h
    rw [as5] at this
    cases this
  have m4 := fun W => csimple_wrong zT (by rw [zT, SOk, SOkL]; exact ⟨ST.none_ok, trivial⟩) hnz none 0 (fun _ => True) W (.nil _)
  have HM := Lib.hid (And.intro m1 (And.intro m2 (And.intro m3 m4)))
  have hk := as6
  obtain ⟨E1, hE1⟩ : ∃ E1, catT [] = E1 := ⟨_, rfl⟩
  obtain ⟨E2, hE2⟩ : ∃ E2, altT [] = E2 := ⟨_, rfl⟩
  obtain ⟨E3, hE3⟩ : ∃ E3, repP t4 2 3 = E3 := ⟨_, rfl⟩
  have x1 := fun W => xcat_any [] none 0 (fun _ => True) W (.nil _) (by decide) (fun t ht => by cases ht)
  have x2 := fun W => xalt_any [] none 0 (fun _ => True) W (.nil _) (by decide) (fun t ht => by cases ht)
  have x3 := fun a c W (ok : Nat → Prop) (hL : Lie W ok a t4.subs) hc => xrep_any t4 12 (read_right hp4) 2 3 a c (fun _ => True) W (hL.mono fun _ _ => trivial) hc (by omega)
  rw [hE1] at hk x1
  rw [hE2] at hk x2
  rw [hE3] at hm4 x3
  have HX := Lib.hid (And.intro x1 (And.intro x2 x3))
  have k1 : ∀ a c (W : World), (Instr.field 27 (nodeV E1 a c) 0).run Try.prog W = .ok (.int .i64 1) W := fun a c W => by rw [field_kind, hk.1]
  have k2 : ∀ a c (W : World), (Instr.field 27 (nodeV E2 a c) 0).run Try.prog W = .ok (.int .i64 2) W := fun a c W => by rw [field_kind, hk.2]
  have k3 : ∀ a c (W : World), (Instr.field 27 (nodeV E3 a c) 3).run Try.prog W = .ok (.int .i64 3) W := fun a c W => by rw [field_max, hm4]
  clear hp1 hp2 hp3 hp4 hpA hpB hpC hs1 hs2 hs3 hc1 hc2 hc3 hc4 m1 m2 m3 m4 hnz hk hE1 hE2 hE3 x1 x2 x3 hm4
  go_enter Try.func7, Try.ntmps7
  go_wp2_with fail
  refine (HQ.out.1 w).mono ?_
  rintro e w1 ⟨⟨v, rfl, a, c, rfl, hle, hlie⟩, q1⟩
  have G := Lib.hid (HM.out.1 a c w1 (hlie.mono fun _ _ => trivial) hle)
  have Q1 := Lib.hid q1
  clear hle hlie q1
  go_wp2_with fail
  refine G.out.mono ?_
  rintro e w2 ⟨⟨v, rfl, a1, c1, rfl, hle, hlie⟩, q2⟩
  clear G
  have I1 := Lib.hid (And.intro (Nd.new hle hlie) ((Q1.out.trans q2).alloc (.cells (ncells A a1 c1) 27)))
  clear hle hlie q2 Q1
  go_upto_region 2 with fail
  generalize (w2.alloc (.cells (ncells A a1 c1) 27)) = W1 at *
  generalize w2.heap.size = n1 at *
  go_wp2_with fail
  refine (HQ.out.2.1 W1).mono ?_
  rintro e w3 ⟨⟨v, rfl, b, d, rfl, hle, hlie⟩, q1⟩
  have G := Lib.hid (HM.out.2.1 b d w3 (hlie.mono fun _ _ => trivial) hle)
  have Q1 := Lib.hid q1
  clear hle hlie q1
  go_wp2_with fail
  refine G.out.mono ?_
  rintro e w4 ⟨⟨v, rfl, a2, c2, rfl, hle, hlie⟩, q2⟩
  clear G
  have qq := (Q1.out.trans q2).alloc (.cells (ncells B a2 c2) 27)
  have I2 := Lib.hid (And.intro (I1.out.1.keep qq) (And.intro (Nd.new hle hlie) (I1.out.2.trans qq)))
  clear hle hlie q2 Q1 qq
  go_upto_region 3 with fail
  generalize (w4.alloc (.cells (ncells B a2 c2) 27)) = W2 at *
  generalize w4.heap.size = n2 at *
  go_wp2_with fail
  refine (HQ.out.2.2 W2).mono ?_
  rintro e w5 ⟨⟨v, rfl, b', d', rfl, hle, hlie⟩, q1⟩
  have G := Lib.hid (HM.out.2.2.1 b' d' w5 (hlie.mono fun _ _ => trivial) hle)
  have Q1 := Lib.hid q1
  clear hle hlie q1
  go_wp2_with fail
  refine G.out.mono ?_
  rintro e w6 ⟨⟨v, rfl, a3, c3, rfl, hle, hlie⟩, q2⟩
  clear G
  have qq := (Q1.out.trans q2).alloc (.cells (ncells C a3 c3) 27)
  have I3 := Lib.hid (And.intro (I2.out.1.keep qq) (And.intro (I2.out.2.1.keep qq) (And.intro (Nd.new hle hlie) (I2.out.2.2.trans qq))))
  clear hle hlie q2 Q1 qq
  go_upto_region 4 with fail
  generalize (w6.alloc (.cells (ncells C a3 c3) 27)) = W3 at *
  generalize w6.heap.size = n3 at *
  go_wp2_with fail
  refine (HM.out.2.2.2 W3).mono ?_
  rintro e w7 ⟨⟨v, rfl, a4, c4, rfl, hle, hlie⟩, q2⟩
  have qq := q2.alloc (.cells (ncells zT a4 c4) 27)
  have I4 := Lib.hid (And.intro (I3.out.1.keep qq) (And.intro (I3.out.2.1.keep qq) (And.intro (I3.out.2.2.1.keep qq) (I3.out.2.2.2.trans qq))))
  clear hle hlie q2 qq
  go_upto_region 5 with fail
  generalize (w7.alloc (.cells (ncells zT a4 c4) 27)) = W4 at *
  generalize w7.heap.size = n4 at *
  have HL := Lib.hid (And.intro I4.out.1.lie (And.intro I4.out.2.1.lie I4.out.2.2.1.lie))
  have hs : ∀ W', Keep (fun _ => False) W4 W' → (fun w' => Keep (fun _ => False) W4 w' ∧ w'.cell? ⟨n1, 0, none⟩ = some (.int .i64 A.kind) ∧ w'.cell? ⟨n1, 1, none⟩ = some (.int .u64 A.set.x0) ∧ w'.cell? ⟨n1, 2, none⟩ = some (.int .u64 A.set.x1) ∧ w'.cell? ⟨n1, 3, none⟩ = some (.int .u64 A.set.x2) ∧ w'.cell? ⟨n1, 4, none⟩ = some (.int .u64 A.set.x3) ∧ w'.cell? ⟨n1, 5, none⟩ = some (.int .i64 A.mn) ∧ w'.cell? ⟨n1, 6, none⟩ = some (.int .i64 A.mx) ∧ w'.cell? ⟨n1, 7, none⟩ = some (.slice a1 A.subs.length c1) ∧ w'.cell? ⟨n2, 0, none⟩ = some (.int .i64 B.kind) ∧ w'.cell? ⟨n2, 1, none⟩ = some (.int .u64 B.set.x0) ∧ w'.cell? ⟨n2, 2, none⟩ = some (.int .u64 B.set.x1) ∧ w'.cell? ⟨n2, 3, none⟩ = some (.int .u64 B.set.x2) ∧ w'.cell? ⟨n2, 4, none⟩ = some (.int .u64 B.set.x3) ∧ w'.cell? ⟨n2, 5, none⟩ = some (.int .i64 B.mn) ∧ w'.cell? ⟨n2, 6, none⟩ = some (.int .i64 B.mx) ∧ w'.cell? ⟨n2, 7, none⟩ = some (.slice a2 B.subs.length c2) ∧ w'.cell? ⟨n3, 0, none⟩ = some (.int .i64 C.kind) ∧ w'.cell? ⟨n3, 1, none⟩ = some (.int .u64 C.set.x0) ∧ w'.cell? ⟨n3, 2, none⟩ = some (.int .u64 C.set.x1) ∧ w'.cell? ⟨n3, 3, none⟩ = some (.int .u64 C.set.x2) ∧ w'.cell? ⟨n3, 4, none⟩ = some (.int .u64 C.set.x3) ∧ w'.cell? ⟨n3, 5, none⟩ = some (.int .i64 C.mn) ∧ w'.cell? ⟨n3, 6, none⟩ = some (.int .i64 C.mx) ∧ w'.cell? ⟨n3, 7, none⟩ = some (.slice a3 C.subs.length c3)) W' := fun W' q => by
    obtain ⟨x0, x1, x2, x3, x4, x5, x6, x7⟩ := (cells8 (I4.out.1.cell.keep q (fun h => h))).1
    obtain ⟨y0, y1, y2, y3, y4, y5, y6, y7⟩ := (cells8 (I4.out.2.1.cell.keep q (fun h => h))).1
    obtain ⟨z0, z1, z2, z3, z4, z5, z6, z7⟩ := (cells8 (I4.out.2.2.1.cell.keep q (fun h => h))).1
    exact ⟨q, x0, x1, x2, x3, x4, x5, x6, x7, y0, y1, y2, y3, y4, y5, y6, y7, z0, z1, z2, z3, z4, z5, z6, z7⟩
  have HS := Lib.hid hs
  clear hs
  have HK := Lib.hid I4.out.2.2.2
  refine wp_region_noPanic ?_
  refine wp_region_held_drew (S := (fun w' => Keep (fun _ => False) W4 w' ∧ w'.cell? ⟨n1, 0, none⟩ = some (.int .i64 A.kind) ∧ w'.cell? ⟨n1, 1, none⟩ = some (.int .u64 A.set.x0) ∧ w'.cell? ⟨n1, 2, none⟩ = some (.int .u64 A.set.x1) ∧ w'.cell? ⟨n1, 3, none⟩ = some (.int .u64 A.set.x2) ∧ w'.cell? ⟨n1, 4, none⟩ = some (.int .u64 A.set.x3) ∧ w'.cell? ⟨n1, 5, none⟩ = some (.int .i64 A.mn) ∧ w'.cell? ⟨n1, 6, none⟩ = some (.int .i64 A.mx) ∧ w'.cell? ⟨n1, 7, none⟩ = some (.slice a1 A.subs.length c1) ∧ w'.cell? ⟨n2, 0, none⟩ = some (.int .i64 B.kind) ∧ w'.cell? ⟨n2, 1, none⟩ = some (.int .u64 B.set.x0) ∧ w'.cell? ⟨n2, 2, none⟩ = some (.int .u64 B.set.x1) ∧ w'.cell? ⟨n2, 3, none⟩ = some (.int .u64 B.set.x2) ∧ w'.cell? ⟨n2, 4, none⟩ = some (.int .u64 B.set.x3) ∧ w'.cell? ⟨n2, 5, none⟩ = some (.int .i64 B.mn) ∧ w'.cell? ⟨n2, 6, none⟩ = some (.int .i64 B.mx) ∧ w'.cell? ⟨n2, 7, none⟩ = some (.slice a2 B.subs.length c2) ∧ w'.cell? ⟨n3, 0, none⟩ = some (.int .i64 C.kind) ∧ w'.cell? ⟨n3, 1, none⟩ = some (.int .u64 C.set.x0) ∧ w'.cell? ⟨n3, 2, none⟩ = some (.int .u64 C.set.x1) ∧ w'.cell? ⟨n3, 3, none⟩ = some (.int .u64 C.set.x2) ∧ w'.cell? ⟨n3, 4, none⟩ = some (.int .u64 C.set.x3) ∧ w'.cell? ⟨n3, 5, none⟩ = some (.int .i64 C.mn) ∧ w'.cell? ⟨n3, 6, none⟩ = some (.int .i64 C.mx) ∧ w'.cell? ⟨n3, 7, none⟩ = some (.slice a3 C.subs.length c3))) (by kernel_rfl) ?_ (fun hHeld => ?_)
  · exact HS.out _ ((Keep.refl _ _).drew)
  refine wpAnyH_take (i := 0) (oi := { dst := some 29, op := Go.Op.load 27 (Go.Operand.tmp 1), type := 27, pos := "law.go:26", after := #[], guard := none }) (v := ?_) rfl (by kernel_rfl) (by kernel_rfl) (by kernel_rfl) (fun _ _ _ h => h) (Or.inl ⟨by rfl, ?_⟩) (by assumption) ?_
  rotate_left 1
  · (intro w hSw; (try dsimp only at hSw); go_simp; first | done | with_reducible rfl)
  try simp only [Act.put, List.setIfInBounds_toArray, List.set_cons_zero, List.set_cons_succ]
  refine wpAnyH_ready (rs := [1]) (by kernel_rfl) (by simp) ?_
  refine AllReadyH.cons (o := { dst := some 30, op := Go.Op.call { callee := Go.Callee.value (Go.Operand.func 21), args := #[Go.Operand.const (Go.Value.string { data := #[91, 97, 45, 99, 93] })], argTypes := #[9] }, type := 27, pos := "law.go:26", after := #[], guard := none }) rfl (fun K hK => ?_) AllReadyH.nil
  go_simp
  (go_at_call 21; refine (HT.out.1 _).mono ?_; rintro e w2 ⟨⟨v, rfl, xa, xc, rfl, hle1, hL1⟩, q⟩)
  refine hK.out _ _ ?_ (fun hHeld' => ?_)
  · exact HS.out _ (Keep.trans (And.left hHeld) q)
  clear hK K hHeld
  have hHeld := hHeld'
  clear hHeld'
  try simp only [Act.put, List.setIfInBounds_toArray, List.set_cons_zero, List.set_cons_succ]
  refine wpAnyH_ready (rs := [2]) (by kernel_rfl) (by simp) ?_
  refine AllReadyH.cons (o := { dst := some 31, op := Go.Op.call { callee := Go.Callee.value (Go.Operand.func 11), args := #[Go.Operand.tmp 29, Go.Operand.tmp 30], argTypes := #[27, 27] }, type := 4, pos := "law.go:26", after := #[{ on := 0, ground := Go.Ground.data }, { on := 1, ground := Go.Ground.data }, { on := 1, ground := Go.Ground.chain }], guard := none }) rfl (fun K hK => ?_) AllReadyH.nil
  go_simp
  (go_at_call 11; refine (same_yes A a1 c1 _ _ _ (HL.out.1.keepF (And.left hHeld)) (hL1.mono fun _ _ => trivial)).mono ?_; rintro e w2 ⟨rfl, q⟩)
  refine hK.out _ _ ?_ (fun hHeld' => ?_)
  · exact HS.out _ (Keep.trans (And.left hHeld) q)
  clear hK K hHeld
  have hHeld := hHeld'
  clear hHeld'
  try simp only [Act.put, List.setIfInBounds_toArray, List.set_cons_zero, List.set_cons_succ]
  refine wpAnyH_take (i := 3) (oi := { dst := some 32, op := Go.Op.move (Go.Operand.tmp 31), type := 4, pos := "law.go:26", after := #[{ on := 2, ground := Go.Ground.data }, { on := 2, ground := Go.Ground.chain }], guard := none }) (v := ?_) rfl (by kernel_rfl) (by kernel_rfl) (by kernel_rfl) (fun _ _ _ h => h) (Or.inl ⟨by rfl, ?_⟩) (by assumption) ?_
  rotate_left 1
  · (intro w hSw; (try dsimp only at hSw); go_simp; first | done | with_reducible rfl)
  try simp only [Act.put, List.setIfInBounds_toArray, List.set_cons_zero, List.set_cons_succ]
  refine wpAnyH_take (i := 4) (oi := { dst := some 33, op := Go.Op.move (Go.Operand.tmp 2), type := 30, pos := "law.go:26", after := #[{ on := 3, ground := Go.Ground.guard }], guard := some (3, true) }) (v := ?_) rfl (by kernel_rfl) (by kernel_rfl) (by kernel_rfl) (fun _ _ _ h => h) (Or.inl ⟨by rfl, ?_⟩) (by assumption) ?_
  rotate_left 1
  · (intro w hSw; (try dsimp only at hSw); go_simp; first | done | with_reducible rfl)
  try simp only [Act.put, List.setIfInBounds_toArray, List.set_cons_zero, List.set_cons_succ]
  refine wpAnyH_take (i := 5) (oi := { dst := some 34, op := Go.Op.binOp Go.BinOp.eql 30 (Go.Operand.tmp 33) (Go.Operand.const (Go.Value.int Go.IntKind.i64 0)) 30, type := 4, pos := "law.go:26", after := #[{ on := 4, ground := Go.Ground.data }, { on := 3, ground := Go.Ground.guard }], guard := some (3, true) }) (v := ?_) rfl (by kernel_rfl) (by kernel_rfl) (by kernel_rfl) (fun _ _ _ h => h) (Or.inl ⟨by rfl, ?_⟩) (by assumption) ?_
  rotate_left 1
  · (intro w hSw; (try dsimp only at hSw); go_simp; first | done | with_reducible rfl)
  try simp only [Act.put, List.setIfInBounds_toArray, List.set_cons_zero, List.set_cons_succ]
  refine wpAnyH_take (i := 6) (oi := { dst := some 35, op := Go.Op.pick (Go.Operand.tmp 32) (Go.Operand.tmp 34) (Go.Operand.const (Go.Value.bool false)), type := 4, pos := "law.go:26", after := #[{ on := 3, ground := Go.Ground.data }, { on := 5, ground := Go.Ground.data }], guard := none }) (v := ?_) rfl (by kernel_rfl) (by kernel_rfl) (by kernel_rfl) (fun _ _ _ h => h) (Or.inl ⟨by rfl, ?_⟩) (by assumption) ?_
  rotate_left 1
  · (intro w hSw; (try dsimp only at hSw); go_simp; first | done | with_reducible rfl)
  try simp only [Act.put, List.setIfInBounds_toArray, List.set_cons_zero, List.set_cons_succ]
  refine wpAnyH_take (i := 7) (oi := { dst := some 36, op := Go.Op.move (Go.Operand.tmp 35), type := 4, pos := "law.go:26", after := #[{ on := 6, ground := Go.Ground.data }, { on := 3, ground := Go.Ground.chain }], guard := none }) (v := ?_) rfl (by kernel_rfl) (by kernel_rfl) (by kernel_rfl) (fun _ _ _ h => h) (Or.inl ⟨by rfl, ?_⟩) (by assumption) ?_
  rotate_left 1
  · (intro w hSw; (try dsimp only at hSw); go_simp; first | done | with_reducible rfl)
  try simp only [Act.put, List.setIfInBounds_toArray, List.set_cons_zero, List.set_cons_succ]
  refine wpAnyH_take (i := 8) (oi := { dst := some 37, op := Go.Op.load 27 (Go.Operand.tmp 3), type := 27, pos := "law.go:26", after := #[{ on := 7, ground := Go.Ground.guard }], guard := some (7, true) }) (v := ?_) rfl (by kernel_rfl) (by kernel_rfl) (by kernel_rfl) (fun _ _ _ h => h) (Or.inl ⟨by rfl, ?_⟩) (by assumption) ?_
  rotate_left 1
  · (intro w hSw; (try dsimp only at hSw); go_simp; first | done | with_reducible rfl)
  try simp only [Act.put, List.setIfInBounds_toArray, List.set_cons_zero, List.set_cons_succ]
  refine wpAnyH_ready (rs := [9]) (by kernel_rfl) (by simp) ?_
  refine AllReadyH.cons (o := { dst := some 38, op := Go.Op.call { callee := Go.Callee.value (Go.Operand.func 21), args := #[Go.Operand.const (Go.Value.string { data := #[97, 42] })], argTypes := #[9] }, type := 27, pos := "law.go:26", after := #[{ on := 7, ground := Go.Ground.chain }, { on := 7, ground := Go.Ground.guard }], guard := some (7, true) }) rfl (fun K hK => ?_) AllReadyH.nil
  go_simp
  (go_at_call 21; refine (HT.out.2.1 _).mono ?_; rintro e w2 ⟨⟨v, rfl, xa, xc, rfl, hle1, hL1⟩, q⟩)
  refine hK.out _ _ ?_ (fun hHeld' => ?_)
  · exact HS.out _ (Keep.trans (And.left hHeld) q)
  clear hK K hHeld
  have hHeld := hHeld'
  clear hHeld'
  try simp only [Act.put, List.setIfInBounds_toArray, List.set_cons_zero, List.set_cons_succ]
  refine wpAnyH_ready (rs := [10]) (by kernel_rfl) (by simp) ?_
  refine AllReadyH.cons (o := { dst := some 39, op := Go.Op.call { callee := Go.Callee.value (Go.Operand.func 11), args := #[Go.Operand.tmp 37, Go.Operand.tmp 38], argTypes := #[27, 27] }, type := 4, pos := "law.go:26", after := #[{ on := 8, ground := Go.Ground.data }, { on := 9, ground := Go.Ground.data }, { on := 9, ground := Go.Ground.chain }, { on := 7, ground := Go.Ground.guard }], guard := some (7, true) }) rfl (fun K hK => ?_) AllReadyH.nil
  go_simp
  (go_at_call 11; refine (same_yes B a2 c2 _ _ _ (HL.out.2.1.keepF (And.left hHeld)) (hL1.mono fun _ _ => trivial)).mono ?_; rintro e w2 ⟨rfl, q⟩)
  refine hK.out _ _ ?_ (fun hHeld' => ?_)
  · exact HS.out _ (Keep.trans (And.left hHeld) q)
  clear hK K hHeld
  have hHeld := hHeld'
  clear hHeld'
  try simp only [Act.put, List.setIfInBounds_toArray, List.set_cons_zero, List.set_cons_succ]
  refine wpAnyH_take (i := 11) (oi := { dst := some 40, op := Go.Op.pick (Go.Operand.tmp 36) (Go.Operand.tmp 39) (Go.Operand.const (Go.Value.bool false)), type := 4, pos := "law.go:26", after := #[{ on := 7, ground := Go.Ground.data }, { on := 10, ground := Go.Ground.data }], guard := none }) (v := ?_) rfl (by kernel_rfl) (by kernel_rfl) (by kernel_rfl) (fun _ _ _ h => h) (Or.inl ⟨by rfl, ?_⟩) (by assumption) ?_
  rotate_left 1
  · (intro w hSw; (try dsimp only at hSw); go_simp; first | done | with_reducible rfl)
  try simp only [Act.put, List.setIfInBounds_toArray, List.set_cons_zero, List.set_cons_succ]
  refine wpAnyH_take (i := 12) (oi := { dst := some 41, op := Go.Op.move (Go.Operand.tmp 40), type := 4, pos := "law.go:26", after := #[{ on := 11, ground := Go.Ground.data }, { on := 10, ground := Go.Ground.chain }], guard := none }) (v := ?_) rfl (by kernel_rfl) (by kernel_rfl) (by kernel_rfl) (fun _ _ _ h => h) (Or.inl ⟨by rfl, ?_⟩) (by assumption) ?_
  rotate_left 1
  · (intro w hSw; (try dsimp only at hSw); go_simp; first | done | with_reducible rfl)
  try simp only [Act.put, List.setIfInBounds_toArray, List.set_cons_zero, List.set_cons_succ]
  refine wpAnyH_take (i := 13) (oi := { dst := some 42, op := Go.Op.load 27 (Go.Operand.tmp 5), type := 27, pos := "law.go:26", after := #[{ on := 12, ground := Go.Ground.guard }], guard := some (12, true) }) (v := ?_) rfl (by kernel_rfl) (by kernel_rfl) (by kernel_rfl) (fun _ _ _ h => h) (Or.inl ⟨by rfl, ?_⟩) (by assumption) ?_
  rotate_left 1
  · (intro w hSw; (try dsimp only at hSw); go_simp; first | done | with_reducible rfl)
  try simp only [Act.put, List.setIfInBounds_toArray, List.set_cons_zero, List.set_cons_succ]
  refine wpAnyH_ready (rs := [14]) (by kernel_rfl) (by simp) ?_
  refine AllReadyH.cons (o := { dst := some 43, op := Go.Op.call { callee := Go.Callee.value (Go.Operand.func 21), args := #[Go.Operand.const (Go.Value.string { data := #[98] })], argTypes := #[9] }, type := 27, pos := "law.go:26", after := #[{ on := 12, ground := Go.Ground.chain }, { on := 12, ground := Go.Ground.guard }], guard := some (12, true) }) rfl (fun K hK => ?_) AllReadyH.nil
  go_simp
  (go_at_call 21; refine (HT.out.2.2.1 _).mono ?_; rintro e w2 ⟨⟨v, rfl, xa, xc, rfl, hle1, hL1⟩, q⟩)
  refine hK.out _ _ ?_ (fun hHeld' => ?_)
  · exact HS.out _ (Keep.trans (And.left hHeld) q)
  clear hK K hHeld
  have hHeld := hHeld'
  clear hHeld'
  try simp only [Act.put, List.setIfInBounds_toArray, List.set_cons_zero, List.set_cons_succ]
  refine wpAnyH_ready (rs := [15]) (by kernel_rfl) (by simp) ?_
  refine AllReadyH.cons (o := { dst := some 44, op := Go.Op.call { callee := Go.Callee.value (Go.Operand.func 11), args := #[Go.Operand.tmp 42, Go.Operand.tmp 43], argTypes := #[27, 27] }, type := 4, pos := "law.go:26", after := #[{ on := 13, ground := Go.Ground.data }, { on := 14, ground := Go.Ground.data }, { on := 14, ground := Go.Ground.chain }, { on := 12, ground := Go.Ground.guard }], guard := some (12, true) }) rfl (fun K hK => ?_) AllReadyH.nil
  go_simp
  (go_at_call 11; refine (same_yes C a3 c3 _ _ _ (HL.out.2.2.keepF (And.left hHeld)) (hL1.mono fun _ _ => trivial)).mono ?_; rintro e w2 ⟨rfl, q⟩)
  refine hK.out _ _ ?_ (fun hHeld' => ?_)
  · exact HS.out _ (Keep.trans (And.left hHeld) q)
  clear hK K hHeld
  have hHeld := hHeld'
  clear hHeld'
  try simp only [Act.put, List.setIfInBounds_toArray, List.set_cons_zero, List.set_cons_succ]
  refine wpAnyH_take (i := 16) (oi := { dst := some 45, op := Go.Op.pick (Go.Operand.tmp 41) (Go.Operand.tmp 44) (Go.Operand.const (Go.Value.bool false)), type := 4, pos := "law.go:26", after := #[{ on := 12, ground := Go.Ground.data }, { on := 15, ground := Go.Ground.data }], guard := none }) (v := ?_) rfl (by kernel_rfl) (by kernel_rfl) (by kernel_rfl) (fun _ _ _ h => h) (Or.inl ⟨by rfl, ?_⟩) (by assumption) ?_
  rotate_left 1
  · (intro w hSw; (try dsimp only at hSw); go_simp; first | done | with_reducible rfl)
  try simp only [Act.put, List.setIfInBounds_toArray, List.set_cons_zero, List.set_cons_succ]
  refine wpAnyH_take (i := 17) (oi := { dst := some 46, op := Go.Op.move (Go.Operand.tmp 45), type := 4, pos := "law.go:26", after := #[{ on := 16, ground := Go.Ground.data }, { on := 15, ground := Go.Ground.chain }], guard := none }) (v := ?_) rfl (by kernel_rfl) (by kernel_rfl) (by kernel_rfl) (fun _ _ _ h => h) (Or.inl ⟨by rfl, ?_⟩) (by assumption) ?_
  rotate_left 1
  · (intro w hSw; (try dsimp only at hSw); go_simp; first | done | with_reducible rfl)
  try simp only [Act.put, List.setIfInBounds_toArray, List.set_cons_zero, List.set_cons_succ]
  refine wpAnyH_take (i := 18) (oi := { dst := some 47, op := Go.Op.move (Go.Operand.tmp 8), type := 30, pos := "law.go:26", after := #[{ on := 17, ground := Go.Ground.guard }], guard := some (17, true) }) (v := ?_) rfl (by kernel_rfl) (by kernel_rfl) (by kernel_rfl) (fun _ _ _ h => h) (Or.inl ⟨by rfl, ?_⟩) (by assumption) ?_
  rotate_left 1
  · (intro w hSw; (try dsimp only at hSw); go_simp; first | done | with_reducible rfl)
  try simp only [Act.put, List.setIfInBounds_toArray, List.set_cons_zero, List.set_cons_succ]
  refine wpAnyH_take (i := 19) (oi := { dst := some 48, op := Go.Op.binOp Go.BinOp.eql 30 (Go.Operand.tmp 47) (Go.Operand.const (Go.Value.int Go.IntKind.i64 1)) 30, type := 4, pos := "law.go:26", after := #[{ on := 18, ground := Go.Ground.data }, { on := 17, ground := Go.Ground.guard }], guard := some (17, true) }) (v := ?_) rfl (by kernel_rfl) (by kernel_rfl) (by kernel_rfl) (fun _ _ _ h => h) (Or.inl ⟨by rfl, ?_⟩) (by assumption) ?_
  rotate_left 1
  · (intro w hSw; (try dsimp only at hSw); go_simp; first | done | with_reducible rfl)
  try simp only [Act.put, List.setIfInBounds_toArray, List.set_cons_zero, List.set_cons_succ]
  refine wpAnyH_take (i := 20) (oi := { dst := some 49, op := Go.Op.pick (Go.Operand.tmp 46) (Go.Operand.tmp 48) (Go.Operand.const (Go.Value.bool false)), type := 4, pos := "law.go:26", after := #[{ on := 17, ground := Go.Ground.data }, { on := 19, ground := Go.Ground.data }], guard := none }) (v := ?_) rfl (by kernel_rfl) (by kernel_rfl) (by kernel_rfl) (fun _ _ _ h => h) (Or.inl ⟨by rfl, ?_⟩) (by assumption) ?_
  rotate_left 1
  · (intro w hSw; (try dsimp only at hSw); go_simp; first | done | with_reducible rfl)
  try simp only [Act.put, List.setIfInBounds_toArray, List.set_cons_zero, List.set_cons_succ]
  refine wpAnyH_take (i := 21) (oi := { dst := some 50, op := Go.Op.move (Go.Operand.tmp 49), type := 4, pos := "law.go:26", after := #[{ on := 20, ground := Go.Ground.data }, { on := 17, ground := Go.Ground.chain }], guard := none }) (v := ?_) rfl (by kernel_rfl) (by kernel_rfl) (by kernel_rfl) (fun _ _ _ h => h) (Or.inl ⟨by rfl, ?_⟩) (by assumption) ?_
  rotate_left 1
  · (intro w hSw; (try dsimp only at hSw); go_simp; first | done | with_reducible rfl)
  try simp only [Act.put, List.setIfInBounds_toArray, List.set_cons_zero, List.set_cons_succ]
  refine wpAnyH_ready (rs := [22]) (by kernel_rfl) (by simp) ?_
  refine AllReadyH.cons (o := { dst := some 51, op := Go.Op.call { callee := Go.Callee.value (Go.Operand.func 18), args := #[Go.Operand.const (Go.Value.slice none 0 0)], argTypes := #[25] }, type := 27, pos := "law.go:26", after := #[{ on := 21, ground := Go.Ground.chain }, { on := 21, ground := Go.Ground.guard }], guard := some (21, true) }) rfl (fun K hK => ?_) AllReadyH.nil
  go_simp
  (go_at_call 18; refine (HX.out.1 _).mono ?_; rintro e w2 ⟨⟨v, rfl, xa, xc, rfl, hle1, hL1⟩, q⟩)
  refine hK.out _ _ ?_ (fun hHeld' => ?_)
  · exact HS.out _ (Keep.trans (And.left hHeld) q)
  clear hK K hHeld
  have hHeld := hHeld'
  clear hHeld'
  try simp only [Act.put, List.setIfInBounds_toArray, List.set_cons_zero, List.set_cons_succ]
  refine wpAnyH_take (i := 23) (oi := { dst := some 52, op := Go.Op.field 27 (Go.Operand.tmp 51) 0, type := 3, pos := "law.go:26", after := #[{ on := 22, ground := Go.Ground.data }, { on := 21, ground := Go.Ground.guard }], guard := some (21, true) }) (v := ?_) rfl (by kernel_rfl) (by kernel_rfl) (by kernel_rfl) (fun _ _ _ h => h) (Or.inl ⟨by rfl, ?_⟩) (by assumption) ?_
  rotate_left 1
  · (intro w hSw; (try dsimp only at hSw); go_simp; first | done | with_reducible rfl)
  try simp only [Act.put, List.setIfInBounds_toArray, List.set_cons_zero, List.set_cons_succ]
  refine wpAnyH_take (i := 24) (oi := { dst := some 53, op := Go.Op.binOp Go.BinOp.eql 3 (Go.Operand.tmp 52) (Go.Operand.const (Go.Value.int Go.IntKind.i64 1)) 3, type := 4, pos := "law.go:26", after := #[{ on := 23, ground := Go.Ground.data }, { on := 21, ground := Go.Ground.guard }], guard := some (21, true) }) (v := ?_) rfl (by kernel_rfl) (by kernel_rfl) (by kernel_rfl) (fun _ _ _ h => h) (Or.inl ⟨by rfl, ?_⟩) (by assumption) ?_
  rotate_left 1
  · (intro w hSw; (try dsimp only at hSw); go_simp; first | done | with_reducible rfl)
  try simp only [Act.put, List.setIfInBounds_toArray, List.set_cons_zero, List.set_cons_succ]
  refine wpAnyH_take (i := 25) (oi := { dst := some 54, op := Go.Op.pick (Go.Operand.tmp 50) (Go.Operand.tmp 53) (Go.Operand.const (Go.Value.bool false)), type := 4, pos := "law.go:26", after := #[{ on := 21, ground := Go.Ground.data }, { on := 24, ground := Go.Ground.data }], guard := none }) (v := ?_) rfl (by kernel_rfl) (by kernel_rfl) (by kernel_rfl) (fun _ _ _ h => h) (Or.inl ⟨by rfl, ?_⟩) (by assumption) ?_
  rotate_left 1
  · (intro w hSw; (try dsimp only at hSw); go_simp; first | done | with_reducible rfl)
  try simp only [Act.put, List.setIfInBounds_toArray, List.set_cons_zero, List.set_cons_succ]
  refine wpAnyH_take (i := 26) (oi := { dst := some 55, op := Go.Op.move (Go.Operand.tmp 54), type := 4, pos := "law.go:26", after := #[{ on := 25, ground := Go.Ground.data }, { on := 22, ground := Go.Ground.chain }], guard := none }) (v := ?_) rfl (by kernel_rfl) (by kernel_rfl) (by kernel_rfl) (fun _ _ _ h => h) (Or.inl ⟨by rfl, ?_⟩) (by assumption) ?_
  rotate_left 1
  · (intro w hSw; (try dsimp only at hSw); go_simp; first | done | with_reducible rfl)
  try simp only [Act.put, List.setIfInBounds_toArray, List.set_cons_zero, List.set_cons_succ]
  refine wpAnyH_ready (rs := [27]) (by kernel_rfl) (by simp) ?_
  refine AllReadyH.cons (o := { dst := some 56, op := Go.Op.call { callee := Go.Callee.value (Go.Operand.func 19), args := #[Go.Operand.const (Go.Value.slice none 0 0)], argTypes := #[25] }, type := 27, pos := "law.go:26", after := #[{ on := 26, ground := Go.Ground.chain }, { on := 26, ground := Go.Ground.guard }], guard := some (26, true) }) rfl (fun K hK => ?_) AllReadyH.nil
  go_simp
  (go_at_call 19; refine (HX.out.2.1 _).mono ?_; rintro e w2 ⟨⟨v, rfl, xa, xc, rfl, hle1, hL1⟩, q⟩)
  refine hK.out _ _ ?_ (fun hHeld' => ?_)
  · exact HS.out _ (Keep.trans (And.left hHeld) q)
  clear hK K hHeld
  have hHeld := hHeld'
  clear hHeld'
  try simp only [Act.put, List.setIfInBounds_toArray, List.set_cons_zero, List.set_cons_succ]
  refine wpAnyH_take (i := 28) (oi := { dst := some 57, op := Go.Op.field 27 (Go.Operand.tmp 56) 0, type := 3, pos := "law.go:26", after := #[{ on := 27, ground := Go.Ground.data }, { on := 26, ground := Go.Ground.guard }], guard := some (26, true) }) (v := ?_) rfl (by kernel_rfl) (by kernel_rfl) (by kernel_rfl) (fun _ _ _ h => h) (Or.inl ⟨by rfl, ?_⟩) (by assumption) ?_
  rotate_left 1
  · (intro w hSw; (try dsimp only at hSw); go_simp; first | done | with_reducible rfl)
  try simp only [Act.put, List.setIfInBounds_toArray, List.set_cons_zero, List.set_cons_succ]
  refine wpAnyH_take (i := 29) (oi := { dst := some 58, op := Go.Op.binOp Go.BinOp.eql 3 (Go.Operand.tmp 57) (Go.Operand.const (Go.Value.int Go.IntKind.i64 2)) 3, type := 4, pos := "law.go:26", after := #[{ on := 28, ground := Go.Ground.data }, { on := 26, ground := Go.Ground.guard }], guard := some (26, true) }) (v := ?_) rfl (by kernel_rfl) (by kernel_rfl) (by kernel_rfl) (fun _ _ _ h => h) (Or.inl ⟨by rfl, ?_⟩) (by assumption) ?_
  rotate_left 1
  · (intro w hSw; (try dsimp only at hSw); go_simp; first | done | with_reducible rfl)
  try simp only [Act.put, List.setIfInBounds_toArray, List.set_cons_zero, List.set_cons_succ]
  refine wpAnyH_take (i := 30) (oi := { dst := some 59, op := Go.Op.pick (Go.Operand.tmp 55) (Go.Operand.tmp 58) (Go.Operand.const (Go.Value.bool false)), type := 4, pos := "law.go:26", after := #[{ on := 26, ground := Go.Ground.data }, { on := 29, ground := Go.Ground.data }], guard := none }) (v := ?_) rfl (by kernel_rfl) (by kernel_rfl) (by kernel_rfl) (fun _ _ _ h => h) (Or.inl ⟨by rfl, ?_⟩) (by assumption) ?_
  rotate_left 1
  · (intro w hSw; (try dsimp only at hSw); go_simp; first | done | with_reducible rfl)
  try simp only [Act.put, List.setIfInBounds_toArray, List.set_cons_zero, List.set_cons_succ]
  refine wpAnyH_take (i := 31) (oi := { dst := some 60, op := Go.Op.move (Go.Operand.tmp 59), type := 4, pos := "law.go:26", after := #[{ on := 30, ground := Go.Ground.data }, { on := 27, ground := Go.Ground.chain }], guard := none }) (v := ?_) rfl (by kernel_rfl) (by kernel_rfl) (by kernel_rfl) (fun _ _ _ h => h) (Or.inl ⟨by rfl, ?_⟩) (by assumption) ?_
  rotate_left 1
  · (intro w hSw; (try dsimp only at hSw); go_simp; first | done | with_reducible rfl)
  try simp only [Act.put, List.setIfInBounds_toArray, List.set_cons_zero, List.set_cons_succ]
  refine wpAnyH_ready (rs := [32]) (by kernel_rfl) (by simp) ?_
  refine AllReadyH.cons (o := { dst := some 61, op := Go.Op.call { callee := Go.Callee.value (Go.Operand.func 21), args := #[Go.Operand.const (Go.Value.string { data := #[97] })], argTypes := #[9] }, type := 27, pos := "law.go:26", after := #[{ on := 31, ground := Go.Ground.chain }, { on := 31, ground := Go.Ground.guard }], guard := some (31, true) }) rfl (fun K hK => ?_) AllReadyH.nil
  go_simp
  (go_at_call 21; refine (HT.out.2.2.2 _).mono ?_; rintro e w2 ⟨⟨v, rfl, xa, xc, rfl, hle1, hL1⟩, q⟩)
  refine hK.out _ _ ?_ (fun hHeld' => ?_)
  · exact HS.out _ (Keep.trans (And.left hHeld) q)
  clear hK K hHeld
  have hHeld := hHeld'
  clear hHeld'
  try simp only [Act.put, List.setIfInBounds_toArray, List.set_cons_zero, List.set_cons_succ]
  refine wpAnyH_ready (rs := [33]) (by kernel_rfl) (by simp) ?_
  refine AllReadyH.cons (o := { dst := some 62, op := Go.Op.call { callee := Go.Callee.value (Go.Operand.func 20), args := #[Go.Operand.tmp 61, Go.Operand.const (Go.Value.int Go.IntKind.i64 2), Go.Operand.const (Go.Value.int Go.IntKind.i64 3)], argTypes := #[27, 3, 3] }, type := 27, pos := "law.go:26", after := #[{ on := 32, ground := Go.Ground.data }, { on := 32, ground := Go.Ground.chain }, { on := 31, ground := Go.Ground.guard }], guard := some (31, true) }) rfl (fun K hK => ?_) AllReadyH.nil
  go_simp
  (go_at_call 20; refine (HX.out.2.2 _ _ _ _ hL1 hle1).mono ?_; rintro e w2 ⟨⟨v, rfl, xa, xc, rfl, hle1, hL1⟩, q⟩)
  refine hK.out _ _ ?_ (fun hHeld' => ?_)
  · exact HS.out _ (Keep.trans (And.left hHeld) q)
  clear hK K hHeld
  have hHeld := hHeld'
  clear hHeld'
  try simp only [Act.put, List.setIfInBounds_toArray, List.set_cons_zero, List.set_cons_succ]
  refine wpAnyH_take (i := 34) (oi := { dst := some 63, op := Go.Op.field 27 (Go.Operand.tmp 62) 3, type := 3, pos := "law.go:26", after := #[{ on := 33, ground := Go.Ground.data }, { on := 31, ground := Go.Ground.guard }], guard := some (31, true) }) (v := ?_) rfl (by kernel_rfl) (by kernel_rfl) (by kernel_rfl) (fun _ _ _ h => h) (Or.inl ⟨by rfl, ?_⟩) (by assumption) ?_
  rotate_left 1
  · (intro w hSw; (try dsimp only at hSw); go_simp; first | done | with_reducible rfl)
  try simp only [Act.put, List.setIfInBounds_toArray, List.set_cons_zero, List.set_cons_succ]
  refine wpAnyH_take (i := 35) (oi := { dst := some 64, op := Go.Op.binOp Go.BinOp.eql 3 (Go.Operand.tmp 63) (Go.Operand.const (Go.Value.int Go.IntKind.i64 3)) 3, type := 4, pos := "law.go:26", after := #[{ on := 34, ground := Go.Ground.data }, { on := 31, ground := Go.Ground.guard }], guard := some (31, true) }) (v := ?_) rfl (by kernel_rfl) (by kernel_rfl) (by kernel_rfl) (fun _ _ _ h => h) (Or.inl ⟨by rfl, ?_⟩) (by assumption) ?_
  rotate_left 1
  · (intro w hSw; (try dsimp only at hSw); go_simp; first | done | with_reducible rfl)
  try simp only [Act.put, List.setIfInBounds_toArray, List.set_cons_zero, List.set_cons_succ]
  refine wpAnyH_take (i := 36) (oi := { dst := some 65, op := Go.Op.pick (Go.Operand.tmp 60) (Go.Operand.tmp 64) (Go.Operand.const (Go.Value.bool false)), type := 4, pos := "law.go:26", after := #[{ on := 31, ground := Go.Ground.data }, { on := 35, ground := Go.Ground.data }], guard := none }) (v := ?_) rfl (by kernel_rfl) (by kernel_rfl) (by kernel_rfl) (fun _ _ _ h => h) (Or.inl ⟨by rfl, ?_⟩) (by assumption) ?_
  rotate_left 1
  · (intro w hSw; (try dsimp only at hSw); go_simp; first | done | with_reducible rfl)
  try simp only [Act.put, List.setIfInBounds_toArray, List.set_cons_zero, List.set_cons_succ]
  refine wpAnyH_take (i := 37) (oi := { dst := some 0, op := Go.Op.assign (Go.Operand.tmp 65), type := 4, pos := "law.go:26", after := #[{ on := 36, ground := Go.Ground.data }, { on := 33, ground := Go.Ground.chain }, { on := 0, ground := Go.Ground.phase }, { on := 1, ground := Go.Ground.phase }, { on := 2, ground := Go.Ground.phase }, { on := 3, ground := Go.Ground.phase }, { on := 4, ground := Go.Ground.phase }, { on := 5, ground := Go.Ground.phase }, { on := 6, ground := Go.Ground.phase }, { on := 7, ground := Go.Ground.phase }, { on := 8, ground := Go.Ground.phase }, { on := 9, ground := Go.Ground.phase }, { on := 10, ground := Go.Ground.phase }, { on := 11, ground := Go.Ground.phase }, { on := 12, ground := Go.Ground.phase }, { on := 13, ground := Go.Ground.phase }, { on := 14, ground := Go.Ground.phase }, { on := 15, ground := Go.Ground.phase }, { on := 16, ground := Go.Ground.phase }, { on := 17, ground := Go.Ground.phase }, { on := 18, ground := Go.Ground.phase }, { on := 19, ground := Go.Ground.phase }, { on := 20, ground := Go.Ground.phase }, { on := 21, ground := Go.Ground.phase }, { on := 22, ground := Go.Ground.phase }, { on := 23, ground := Go.Ground.phase }, { on := 24, ground := Go.Ground.phase }, { on := 25, ground := Go.Ground.phase }, { on := 26, ground := Go.Ground.phase }, { on := 27, ground := Go.Ground.phase }, { on := 28, ground := Go.Ground.phase }, { on := 29, ground := Go.Ground.phase }, { on := 30, ground := Go.Ground.phase }, { on := 31, ground := Go.Ground.phase }, { on := 32, ground := Go.Ground.phase }, { on := 33, ground := Go.Ground.phase }, { on := 34, ground := Go.Ground.phase }, { on := 35, ground := Go.Ground.phase }, { on := 36, ground := Go.Ground.phase }], guard := none }) (v := ?_) rfl (by kernel_rfl) (by kernel_rfl) (by kernel_rfl) (fun _ _ _ h => h) (Or.inl ⟨by rfl, ?_⟩) (by assumption) ?_
  rotate_left 1
  · (intro w hSw; (try dsimp only at hSw); go_simp; first | done | with_reducible rfl)
  try simp only [Act.put, List.setIfInBounds_toArray, List.set_cons_zero]
  refine wpAnyH_done (by kernel_rfl) ?_ _
  refine NoPanic.normal ?_
  have HZ := Lib.hid (HK.out.trans (And.left hHeld))
  clear hHeld
  go_wp2_with fail
  go_ret
  exact ⟨rfl, HZ.out⟩
end Go.Proofs.Ytmohpjpodkbgkaa.P10
/- SimplifyTells: the walk. -/
namespace Go.Proofs.Ytmohpjpodkbgkaa.P10
open Go.RowKit Go.Proofs.Ytmohpjpodkbgkaa.Base Go.Proofs.Ytmohpjpodkbgkaa.Bytes Go.Proofs.Ytmohpjpodkbgkaa.P07 Go.Proofs.Ytmohpjpodkbgkaa.P08 Go.Proofs.Ytmohpjpodkbgkaa.P09
open Go.Proofs.Ytmohpjpodkbgkaa.Sets (ST)

set_option maxRecDepth 100000 in
set_option maxHeartbeats 16000000 in
theorem law_tells (t : T) (a : Option Addr) (c : Nat) (w : World) (hta : Lie w (fun _ => True) a t.subs) (hcl : t.subs.length ≤ c) (ht : cnt t ≤ 1000000000) (hst : SOk t) :
    Calls Try.prog 3 #[nodeV t a c] w fun e w' => e = .returned (.bool true) ∧ Keep (fun _ => False) w w' := by
  have q := (Keep.refl (fun _ => False) w).alloc (.cells (ncells t a c) 27)
  have H0 := Lib.hid (And.intro q (show Nd _ w.heap.size t a c from ⟨At.new w _ _, hta.keepF q, hcl⟩))
  have HCT := Lib.hid (And.intro ht hst)
  clear q hta hcl ht hst
  go_enter Try.func3, Try.ntmps3
  go_upto_region 1 with fail
  generalize (w.alloc (.cells (ncells t a c) 27)) = W0 at *
  generalize w.heap.size = n1 at *
  go_wp2_with fail
  refine (awake_true W0).mono ?_
  rintro e w1 ⟨rfl, q1⟩
  have H1 := Lib.hid (And.intro (H0.out.1.trans q1) (H0.out.2.keep q1))
  clear q1
  obtain ⟨x0, x1, x2, x3, x4, x5, x6, x7⟩ := (cells8 H1.out.2.cell).1
  go_wp2_with fail
  refine (few_any t HCT.out.1 a c w1 H1.out.2.lie).mono ?_
  rintro e w2 ⟨rfl, q2⟩
  have H2 := Lib.hid (And.intro (H1.out.1.trans q2) (H1.out.2.keep q2))
  clear q2 x0 x1 x2 x3 x4 x5 x6 x7
  by_cases h1 : sz t ≤ 200
  case neg =>
    have g1 : decide (sz t ≤ 200) = false := decide_eq_false h1
    rw [g1]
    clear g1 h1
    go_wp2_with fail
    refine (awake_true w2).mono ?_
    rintro e w3 ⟨rfl, q3⟩
    have Q3 := Lib.hid (H2.out.1.trans q3)
    clear q3
    go_wp2_with fail
    go_ret
    exact ⟨rfl, Q3.out⟩
  have g1 : decide (sz t ≤ 200) = true := decide_eq_true h1
  rw [g1]
  have HF1 := Lib.hid (few_cnt h1)
  clear g1 h1
  cases h3 : rightB t with
  | false =>
    have hnR : ¬ RT 12 t := fun h => by
      rw [(rightB_iff HCT.out.2).2 h] at h3
      cases h3
    have HM := Lib.hid (csimple_wrong t HCT.out.2 hnR a c (fun _ => True) w2 H2.out.2.lie)
    have HRi := Lib.hid (fun W hL => fright_any t HCT.out.1 a c W hL)
    rw [h3] at HRi
    clear hnR h3
    obtain ⟨x0, x1, x2, x3, x4, x5, x6, x7⟩ := (cells8 H2.out.2.cell).1
    go_wp2_with fail
    refine HM.out.mono ?_
    rintro e w3 ⟨⟨v, rfl, ma, mc, rfl, hle, hlie⟩, q3⟩
    clear HM x0 x1 x2 x3 x4 x5 x6 x7
    have qq := q3.alloc (.cells (ncells zT ma mc) 27)
    have H3 := Lib.hid (And.intro (H2.out.1.trans qq) (And.intro (H2.out.2.keep qq) (Nd.new hle hlie)))
    clear hle hlie q3 qq
    go_upto_region 4 with fail
    generalize (w3.alloc (.cells (ncells zT ma mc) 27)) = W3 at *
    generalize w3.heap.size = n2 at *
    obtain ⟨x0, x1, x2, x3, x4, x5, x6, x7⟩ := (cells8 H3.out.2.1.cell).1
    go_wp2_with fail
    refine (HRi.out W3 H3.out.2.1.lie).mono ?_
    rintro e w4 ⟨rfl, q4⟩
    have H4 := Lib.hid (And.intro (H3.out.1.trans q4) (H3.out.2.2.keep q4))
    clear q4 x0 x1 x2 x3 x4 x5 x6 x7
    obtain ⟨y0, y1, y2, y3, y4, y5, y6, y7⟩ := (cells8 H4.out.2.cell).1
    have HSa := Lib.hid (same_yes zT ma mc none 0 w4 H4.out.2.lie (.nil _))
    go_wp2_with fail
    refine HSa.out.mono ?_
    rintro e w5 ⟨rfl, q5⟩
    have H5 := Lib.hid (H4.out.1.trans q5)
    clear q5 y0 y1 y2 y3 y4 y5 y6 y7
    go_wp2_with fail
    go_ret
    exact ⟨rfl, H5.out⟩
  | true =>
    have hR : RT 12 t := (rightB_iff HCT.out.2).1 h3
    have HM := Lib.hid (csimple_right t hR (by have := HF1.out; omega) a c (fun _ => True) w2 H2.out.2.lie H2.out.2.le)
    have HF := Lib.hid (fun W (hL : Lie W (fun _ => True) a t.subs) => fsimple_any t 12 hR (by have := HF1.out; omega) a c (fun _ => True) W hL H2.out.2.le)
    have HRi := Lib.hid (fun W hL => fright_any t HCT.out.1 a c W hL)
    rw [h3] at HRi
    generalize simT t = M at *
    clear hR h3
    obtain ⟨x0, x1, x2, x3, x4, x5, x6, x7⟩ := (cells8 H2.out.2.cell).1
    go_wp2_with fail
    refine HM.out.mono ?_
    rintro e w3 ⟨⟨v, rfl, ma, mc, rfl, hle, hlie⟩, q3⟩
    clear HM x0 x1 x2 x3 x4 x5 x6 x7
    have qq := q3.alloc (.cells (ncells M ma mc) 27)
    have H3 := Lib.hid (And.intro (H2.out.1.trans qq) (And.intro (H2.out.2.keep qq) (Nd.new hle hlie)))
    clear hle hlie q3 qq
    go_upto_region 4 with fail
    generalize (w3.alloc (.cells (ncells M ma mc) 27)) = W3 at *
    generalize w3.heap.size = n2 at *
    obtain ⟨x0, x1, x2, x3, x4, x5, x6, x7⟩ := (cells8 H3.out.2.1.cell).1
    go_wp2_with fail
    refine (HRi.out W3 H3.out.2.1.lie).mono ?_
    rintro e W4 ⟨rfl, q4⟩
    have H4 := Lib.hid (And.intro (H3.out.1.trans q4) (And.intro (H3.out.2.1.keep q4) (H3.out.2.2.keep q4)))
    clear q4 x0 x1 x2 x3 x4 x5 x6 x7
    go_upto_region 6 with fail
    have HL := Lib.hid (And.intro H4.out.2.1.lie H4.out.2.2.lie)
    have hs : ∀ W', Keep (fun _ => False) W4 W' → (fun w' => Keep (fun _ => False) W4 w' ∧ w'.cell? ⟨n1, 0, none⟩ = some (.int .i64 t.kind) ∧ w'.cell? ⟨n1, 1, none⟩ = some (.int .u64 t.set.x0) ∧ w'.cell? ⟨n1, 2, none⟩ = some (.int .u64 t.set.x1) ∧ w'.cell? ⟨n1, 3, none⟩ = some (.int .u64 t.set.x2) ∧ w'.cell? ⟨n1, 4, none⟩ = some (.int .u64 t.set.x3) ∧ w'.cell? ⟨n1, 5, none⟩ = some (.int .i64 t.mn) ∧ w'.cell? ⟨n1, 6, none⟩ = some (.int .i64 t.mx) ∧ w'.cell? ⟨n1, 7, none⟩ = some (.slice a t.subs.length c) ∧ w'.cell? ⟨n2, 0, none⟩ = some (.int .i64 M.kind) ∧ w'.cell? ⟨n2, 1, none⟩ = some (.int .u64 M.set.x0) ∧ w'.cell? ⟨n2, 2, none⟩ = some (.int .u64 M.set.x1) ∧ w'.cell? ⟨n2, 3, none⟩ = some (.int .u64 M.set.x2) ∧ w'.cell? ⟨n2, 4, none⟩ = some (.int .u64 M.set.x3) ∧ w'.cell? ⟨n2, 5, none⟩ = some (.int .i64 M.mn) ∧ w'.cell? ⟨n2, 6, none⟩ = some (.int .i64 M.mx) ∧ w'.cell? ⟨n2, 7, none⟩ = some (.slice ma M.subs.length mc)) W' := fun W' q => by
      obtain ⟨x0, x1, x2, x3, x4, x5, x6, x7⟩ := (cells8 (H4.out.2.1.cell.keep q (fun h => h))).1
      obtain ⟨y0, y1, y2, y3, y4, y5, y6, y7⟩ := (cells8 (H4.out.2.2.cell.keep q (fun h => h))).1
      exact ⟨q, x0, x1, x2, x3, x4, x5, x6, x7, y0, y1, y2, y3, y4, y5, y6, y7⟩
    have HS := Lib.hid hs
    clear hs
    refine wp_region_noPanic ?_
    refine wp_region_held_drew (S := (fun w' => Keep (fun _ => False) W4 w' ∧ w'.cell? ⟨n1, 0, none⟩ = some (.int .i64 t.kind) ∧ w'.cell? ⟨n1, 1, none⟩ = some (.int .u64 t.set.x0) ∧ w'.cell? ⟨n1, 2, none⟩ = some (.int .u64 t.set.x1) ∧ w'.cell? ⟨n1, 3, none⟩ = some (.int .u64 t.set.x2) ∧ w'.cell? ⟨n1, 4, none⟩ = some (.int .u64 t.set.x3) ∧ w'.cell? ⟨n1, 5, none⟩ = some (.int .i64 t.mn) ∧ w'.cell? ⟨n1, 6, none⟩ = some (.int .i64 t.mx) ∧ w'.cell? ⟨n1, 7, none⟩ = some (.slice a t.subs.length c) ∧ w'.cell? ⟨n2, 0, none⟩ = some (.int .i64 M.kind) ∧ w'.cell? ⟨n2, 1, none⟩ = some (.int .u64 M.set.x0) ∧ w'.cell? ⟨n2, 2, none⟩ = some (.int .u64 M.set.x1) ∧ w'.cell? ⟨n2, 3, none⟩ = some (.int .u64 M.set.x2) ∧ w'.cell? ⟨n2, 4, none⟩ = some (.int .u64 M.set.x3) ∧ w'.cell? ⟨n2, 5, none⟩ = some (.int .i64 M.mn) ∧ w'.cell? ⟨n2, 6, none⟩ = some (.int .i64 M.mx) ∧ w'.cell? ⟨n2, 7, none⟩ = some (.slice ma M.subs.length mc))) (by kernel_rfl) ?_ (fun hHeld => ?_)
    · exact HS.out _ ((Keep.refl _ _).drew)
    refine wpAnyH_take (i := 0) (oi := { dst := some 28, op := Go.Op.move (Go.Operand.tmp 4), type := 30, pos := "law.go:38", after := #[], guard := none }) (v := ?_) rfl (by kernel_rfl) (by kernel_rfl) (by kernel_rfl) (fun _ _ _ h => h) (Or.inl ⟨by rfl, ?_⟩) (by assumption) ?_
    rotate_left 1
    · (intro w hSw; (try dsimp only at hSw); go_simp; first | done | with_reducible rfl)
    try simp only [Act.put, List.setIfInBounds_toArray, List.set_cons_zero, List.set_cons_succ]
    refine wpAnyH_take (i := 1) (oi := { dst := some 29, op := Go.Op.binOp Go.BinOp.eql 30 (Go.Operand.tmp 28) (Go.Operand.const (Go.Value.int Go.IntKind.i64 0)) 30, type := 4, pos := "law.go:38", after := #[{ on := 0, ground := Go.Ground.data }], guard := none }) (v := ?_) rfl (by kernel_rfl) (by kernel_rfl) (by kernel_rfl) (fun _ _ _ h => h) (Or.inl ⟨by rfl, ?_⟩) (by assumption) ?_
    rotate_left 1
    · (intro w hSw; (try dsimp only at hSw); go_simp; first | done | with_reducible rfl)
    try simp only [Act.put, List.setIfInBounds_toArray, List.set_cons_zero, List.set_cons_succ]
    refine wpAnyH_take (i := 2) (oi := { dst := some 30, op := Go.Op.move (Go.Operand.tmp 29), type := 4, pos := "law.go:38", after := #[{ on := 1, ground := Go.Ground.data }], guard := none }) (v := ?_) rfl (by kernel_rfl) (by kernel_rfl) (by kernel_rfl) (fun _ _ _ h => h) (Or.inl ⟨by rfl, ?_⟩) (by assumption) ?_
    rotate_left 1
    · (intro w hSw; (try dsimp only at hSw); go_simp; first | done | with_reducible rfl)
    try simp only [Act.put, List.setIfInBounds_toArray, List.set_cons_zero, List.set_cons_succ]
    refine wpAnyH_take (i := 3) (oi := { dst := some 31, op := Go.Op.load 27 (Go.Operand.tmp 3), type := 27, pos := "law.go:38", after := #[{ on := 2, ground := Go.Ground.guard }], guard := some (2, true) }) (v := ?_) rfl (by kernel_rfl) (by kernel_rfl) (by kernel_rfl) (fun _ _ _ h => h) (Or.inl ⟨by rfl, ?_⟩) (by assumption) ?_
    rotate_left 1
    · (intro w hSw; (try dsimp only at hSw); go_simp; first | done | with_reducible rfl)
    try simp only [Act.put, List.setIfInBounds_toArray, List.set_cons_zero, List.set_cons_succ]
    refine wpAnyH_take (i := 4) (oi := { dst := some 32, op := Go.Op.load 27 (Go.Operand.tmp 1), type := 27, pos := "law.go:38", after := #[{ on := 2, ground := Go.Ground.guard }], guard := some (2, true) }) (v := ?_) rfl (by kernel_rfl) (by kernel_rfl) (by kernel_rfl) (fun _ _ _ h => h) (Or.inl ⟨by rfl, ?_⟩) (by assumption) ?_
    rotate_left 1
    · (intro w hSw; (try dsimp only at hSw); go_simp; first | done | with_reducible rfl)
    try simp only [Act.put, List.setIfInBounds_toArray, List.set_cons_zero, List.set_cons_succ]
    refine wpAnyH_ready (rs := [5]) (by kernel_rfl) (by simp) ?_
    refine AllReadyH.cons (o := { dst := some 33, op := Go.Op.call { callee := Go.Callee.value (Go.Operand.func 12), args := #[Go.Operand.tmp 32], argTypes := #[27] }, type := 27, pos := "law.go:38", after := #[{ on := 4, ground := Go.Ground.data }, { on := 2, ground := Go.Ground.chain }, { on := 2, ground := Go.Ground.guard }], guard := some (2, true) }) rfl (fun K hK => ?_) AllReadyH.nil
    go_simp
    (go_at_call 12; refine (HF.out _ (HL.out.1.keepF (And.left hHeld))).mono ?_; rintro e w2 ⟨⟨v, rfl, xa, xc, rfl, hle1, hL1⟩, q⟩)
    refine hK.out _ _ ?_ (fun hHeld' => ?_)
    · exact HS.out _ (Keep.trans (And.left hHeld) q)
    clear hK K hHeld
    have hHeld := hHeld'
    clear hHeld'
    try simp only [Act.put, List.setIfInBounds_toArray, List.set_cons_zero, List.set_cons_succ]
    refine wpAnyH_ready (rs := [6]) (by kernel_rfl) (by simp) ?_
    refine AllReadyH.cons (o := { dst := some 34, op := Go.Op.call { callee := Go.Callee.value (Go.Operand.func 11), args := #[Go.Operand.tmp 31, Go.Operand.tmp 33], argTypes := #[27, 27] }, type := 4, pos := "law.go:38", after := #[{ on := 3, ground := Go.Ground.data }, { on := 5, ground := Go.Ground.data }, { on := 5, ground := Go.Ground.chain }, { on := 2, ground := Go.Ground.guard }], guard := some (2, true) }) rfl (fun K hK => ?_) AllReadyH.nil
    go_simp
    (go_at_call 11; refine (same_yes M ma mc _ _ _ (HL.out.2.keepF (And.left hHeld)) (hL1.mono fun _ _ => trivial)).mono ?_; rintro e w2 ⟨rfl, q⟩)
    refine hK.out _ _ ?_ (fun hHeld' => ?_)
    · exact HS.out _ (Keep.trans (And.left hHeld) q)
    clear hK K hHeld
    have hHeld := hHeld'
    clear hHeld'
    try simp only [Act.put, List.setIfInBounds_toArray, List.set_cons_zero, List.set_cons_succ]
    refine wpAnyH_take (i := 7) (oi := { dst := some 35, op := Go.Op.pick (Go.Operand.tmp 30) (Go.Operand.tmp 34) (Go.Operand.const (Go.Value.bool false)), type := 4, pos := "law.go:38", after := #[{ on := 2, ground := Go.Ground.data }, { on := 6, ground := Go.Ground.data }], guard := none }) (v := ?_) rfl (by kernel_rfl) (by kernel_rfl) (by kernel_rfl) (fun _ _ _ h => h) (Or.inl ⟨by rfl, ?_⟩) (by assumption) ?_
    rotate_left 1
    · (intro w hSw; (try dsimp only at hSw); go_simp; first | done | with_reducible rfl)
    try simp only [Act.put, List.setIfInBounds_toArray, List.set_cons_zero, List.set_cons_succ]
    refine wpAnyH_take (i := 8) (oi := { dst := some 2, op := Go.Op.assign (Go.Operand.tmp 35), type := 4, pos := "law.go:38", after := #[{ on := 7, ground := Go.Ground.data }, { on := 6, ground := Go.Ground.chain }, { on := 0, ground := Go.Ground.phase }, { on := 1, ground := Go.Ground.phase }, { on := 2, ground := Go.Ground.phase }, { on := 3, ground := Go.Ground.phase }, { on := 4, ground := Go.Ground.phase }, { on := 5, ground := Go.Ground.phase }, { on := 6, ground := Go.Ground.phase }, { on := 7, ground := Go.Ground.phase }], guard := none }) (v := ?_) rfl (by kernel_rfl) (by kernel_rfl) (by kernel_rfl) (fun _ _ _ h => h) (Or.inl ⟨by rfl, ?_⟩) (by assumption) ?_
    rotate_left 1
    · (intro w hSw; (try dsimp only at hSw); go_simp; first | done | with_reducible rfl)
    try simp only [Act.put, List.setIfInBounds_toArray, List.set_cons_zero, List.set_cons_succ]
    refine wpAnyH_done (by kernel_rfl) ?_ _
    refine NoPanic.normal ?_
    have HZ := Lib.hid (H4.out.1.trans (And.left hHeld))
    clear hHeld
    go_wp2_with fail
    go_ret
    exact ⟨rfl, HZ.out⟩
end Go.Proofs.Ytmohpjpodkbgkaa.P10
/- Two expressions in a row that is new (layer 10). -/
namespace Go.Proofs.Ytmohpjpodkbgkaa.P10
open Go.RowKit Go.Proofs.Ytmohpjpodkbgkaa.Base Go.Proofs.Ytmohpjpodkbgkaa.Bytes Go.Proofs.Ytmohpjpodkbgkaa.P07 Go.Proofs.Ytmohpjpodkbgkaa.P08 Go.Proofs.Ytmohpjpodkbgkaa.P09
open Go.Proofs.Ytmohpjpodkbgkaa.Sets (ST)

theorem lie_two {W : World} {t u : T} {a b : Option Addr} {c d : Nat} (ht : Lie W (fun _ => True) a t.subs) (hu : Lie W (fun _ => True) b u.subs) (hc : t.subs.length ≤ c) (hd : u.subs.length ≤ d) :
    Lie (W.alloc (.cells (ncells t a c ++ ncells u b d) 27)) (fun _ => True) (some ⟨W.heap.size, 0, none⟩) [t, u] := by
  have q := (Keep.refl (fun _ => False) W).alloc (.cells (ncells t a c ++ ncells u b d) 27)
  have h := At.new W (ncells t a c ++ ncells u b d) 27
  refine .cons W.heap.size 0 [t, u] (fun i => if i = 0 then a else b) (fun i => if i = 0 then c else d) (by simp) h.lt trivial (fun i s hs => ?_) (fun i s hs j v hv => ?_) (fun i s hs => ?_)
  · match i, hs with
    | 0, hs => simp at hs; subst hs; exact hc
    | 1, hs => simp at hs; subst hs; exact hd
    | i + 2, hs => simp at hs
  · match i, hs with
    | 0, hs =>
      simp at hs
      subst hs
      have hj : j < 8 := (Array.getElem?_eq_some_iff.1 hv).1
      have := h.cell (o := j) (v := v) (by rw [Array.getElem?_append_left (by simpa using hj)]; exact hv)
      simpa using this
    | 1, hs =>
      simp at hs
      subst hs
      have hj : j < 8 := (Array.getElem?_eq_some_iff.1 hv).1
      have := h.cell (o := 8 + j) (v := v) (by rw [Array.getElem?_append_right (by simp)]; simpa using hv)
      simpa using this
    | i + 2, hs => simp at hs
  · match i, hs with
    | 0, hs => simp at hs; subst hs; exact ht.keepF q
    | 1, hs => simp at hs; subst hs; exact hu.keepF q
    | i + 2, hs => simp at hs
/-- The world with the row. -/
def two (W : World) (t u : T) (a b : Option Addr) (c d : Nat) : World := W.alloc (.cells (ncells t a c ++ ncells u b d) 27)
theorem two_keep (W : World) (t u : T) (a b : Option Addr) (c d : Nat) : Keep (fun _ => False) W (two W t u a b c d) := (Keep.refl (fun _ => False) W).alloc _
theorem two_lie {W : World} {t u : T} {a b : Option Addr} {c d : Nat} (ht : Lie W (fun _ => True) a t.subs) (hu : Lie W (fun _ => True) b u.subs) (hc : t.subs.length ≤ c) (hd : u.subs.length ≤ d) :
    Lie (two W t u a b c d) (fun _ => True) (some ⟨W.heap.size, 0, none⟩) [t, u] := lie_two ht hu hc hd
end Go.Proofs.Ytmohpjpodkbgkaa.P10
/- SimplifyAgain: the walk. -/
namespace Go.Proofs.Ytmohpjpodkbgkaa.P10
open Go.RowKit Go.Proofs.Ytmohpjpodkbgkaa.Base Go.Proofs.Ytmohpjpodkbgkaa.Bytes Go.Proofs.Ytmohpjpodkbgkaa.P07 Go.Proofs.Ytmohpjpodkbgkaa.P08 Go.Proofs.Ytmohpjpodkbgkaa.P09
open Go.Proofs.Ytmohpjpodkbgkaa.Sets (ST)

set_option maxRecDepth 100000 in
set_option maxHeartbeats 16000000 in
theorem law_again (t : T) (a : Option Addr) (c : Nat) (w : World) (hta : Lie w (fun _ => True) a t.subs) (hcl : t.subs.length ≤ c) (ht : cnt t ≤ 1000000000) (hst : SOk t) :
    Calls Try.prog 4 #[nodeV t a c] w fun e w' => e = .returned (.bool true) ∧ Keep (fun _ => False) w w' := by
  have q := (Keep.refl (fun _ => False) w).alloc (.cells (ncells t a c) 27)
  have H0 := Lib.hid (And.intro q (show Nd _ w.heap.size t a c from ⟨At.new w _ _, hta.keepF q, hcl⟩))
  have HCT := Lib.hid (And.intro ht hst)
  clear q hta hcl ht hst
  go_enter Try.func4, Try.ntmps4
  go_upto_region 1 with fail
  generalize (w.alloc (.cells (ncells t a c) 27)) = W0 at *
  generalize w.heap.size = n1 at *
  go_wp2_with fail
  refine (awake_true W0).mono ?_
  rintro e w1 ⟨rfl, q1⟩
  have H1 := Lib.hid (And.intro (H0.out.1.trans q1) (H0.out.2.keep q1))
  clear q1
  obtain ⟨x0, x1, x2, x3, x4, x5, x6, x7⟩ := (cells8 H1.out.2.cell).1
  go_wp2_with fail
  refine (few_any t HCT.out.1 a c w1 H1.out.2.lie).mono ?_
  rintro e w2 ⟨rfl, q2⟩
  have H2 := Lib.hid (And.intro (H1.out.1.trans q2) (H1.out.2.keep q2))
  clear q2 x0 x1 x2 x3 x4 x5 x6 x7
  by_cases h1 : sz t ≤ 200
  case neg =>
    have g1 : decide (sz t ≤ 200) = false := decide_eq_false h1
    rw [g1]
    clear g1 h1
    go_wp2_with fail
    refine (awake_true w2).mono ?_
    rintro e w3 ⟨rfl, q3⟩
    have Q3 := Lib.hid (H2.out.1.trans q3)
    clear q3
    go_wp2_with fail
    go_ret
    exact ⟨rfl, Q3.out⟩
  have g1 : decide (sz t ≤ 200) = true := decide_eq_true h1
  rw [g1]
  have HF1 := Lib.hid (few_cnt h1)
  clear g1 h1
  have HRi := Lib.hid (fun W hL => fright_any t HCT.out.1 a c W hL)
  obtain ⟨x0, x1, x2, x3, x4, x5, x6, x7⟩ := (cells8 H2.out.2.cell).1
  cases h3 : rightB t with
  | false =>
    rw [h3] at HRi
    clear h3
    go_wp2_with fail
    refine (HRi.out w2 H2.out.2.lie).mono ?_
    rintro e w3 ⟨rfl, q3⟩
    have Q3 := Lib.hid (H2.out.1.trans q3)
    clear q3
    go_wp2_with fail
    refine (awake_true w3).mono ?_
    rintro e w4 ⟨rfl, q4⟩
    have Q4 := Lib.hid (Q3.out.trans q4)
    clear q4
    go_wp2_with fail
    go_ret
    exact ⟨rfl, Q4.out⟩
  | true =>
    have hR : RT 12 t := (rightB_iff HCT.out.2).1 h3
    have hSi := (sim_ok t 12 hR).1
    have hfx := sim_fix (simT t) 12 hSi.rt hSi.smp
    have eN := none_same hR hSi.rt hSi.mat
    have eL := lens_same hR hSi.rt hSi.mat 10
    have eF := first_same hR hSi.rt hSi.mat
    have hct := HF1.out
    have hcm : cnt (simT t) ≤ cnt t := hSi.cnt
    have hM := fun W hL => csimple_right t hR (by omega) a c (fun _ => True) W hL H2.out.2.le
    rw [h3] at HRi
    generalize simT t = M at *
    have hRM := hSi.rt
    have hsM := RT_sok M 12 hRM
    have hMM := fun ma mc W (hL : Lie W (fun _ => True) ma M.subs) hle => csimple_right M hRM (by omega) ma mc (fun _ => True) W hL hle
    rw [hfx] at hMM
    have r1 := fun ma mc W (hL : Lie W (fun _ => True) ma M.subs) => fright_any M (by omega) ma mc W hL
    rw [(rightB_iff hsM).2 hRM] at r1
    have z1 := fun W (hL : Lie W (fun _ => True) a t.subs) => fsize_any t HCT.out.1 a c W hL
    have z2 := fun ma mc W (hL : Lie W (fun _ => True) ma M.subs) => fsize_any M (by omega) ma mc W hL
    have l1 := fun W (hL : Lie W (fun _ => True) a t.subs) => flens_all _ t (Nat.lt_succ_self _) 12 hR 10 (by decide) a c W hL
    have l2 := fun ma mc W (hL : Lie W (fun _ => True) ma M.subs) => flens_all _ M (Nat.lt_succ_self _) 12 hRM 10 (by decide) ma mc W hL
    have n1' := fun W (hL : Lie W (fun _ => True) a t.subs) => fnone_any t 12 hR a c W hL
    have n2' := fun ma mc W (hL : Lie W (fun _ => True) ma M.subs) => fnone_any M 12 hRM ma mc W hL
    have f1 := fun W (hL : Lie W (fun _ => True) a t.subs) => ffirst_all _ t (Nat.lt_succ_self _) (by omega) 12 hR a c W hL
    have f2 := fun ma mc W (hL : Lie W (fun _ => True) ma M.subs) => ffirst_all _ M (Nat.lt_succ_self _) (by omega) 12 hRM ma mc W hL
    unfold IsLens at l1 l2
    rw [eL] at l2
    rw [eN] at n2'
    rw [eF] at f2
    have hll := lens_length 10 t
    generalize noneB t = nb at *
    generalize firstS t = FS at *
    generalize lens 10 t = LL at *
    generalize cnt t = ct at *
    generalize cnt M = cm at *
    have HX := Lib.hid (And.intro hM hMM)
    have HY := Lib.hid (And.intro r1 (And.intro z2 (And.intro l2 (And.intro n2' f2))))
    have HZt := Lib.hid z1
    have HLt := Lib.hid l1
    have HNt := Lib.hid n1'
    have HFt := Lib.hid f1
    have HLL := Lib.hid hll
    have HCC := Lib.hid (And.intro hct hcm)
    clear hR hSi hfx eN eL eF hct hcm hM h3 hRM hsM hMM r1 z1 z2 l1 l2 n1' n2' f1 f2 hll
    go_wp2_with fail
    refine (HRi.out w2 H2.out.2.lie).mono ?_
    rintro e w3 ⟨rfl, q3⟩
    have H3 := Lib.hid (And.intro (H2.out.1.trans q3) (H2.out.2.keep q3))
    clear q3 x0 x1 x2 x3 x4 x5 x6 x7
    obtain ⟨x0, x1, x2, x3, x4, x5, x6, x7⟩ := (cells8 H3.out.2.cell).1
    go_wp2_with fail
    refine (HX.out.1 w3 H3.out.2.lie).mono ?_
    rintro e w4 ⟨⟨v, rfl, ma, mc, rfl, hle, hlie⟩, q4⟩
    have qq := q4.alloc (.cells (ncells M ma mc) 27)
    have H4 := Lib.hid (And.intro (H3.out.1.trans qq) (And.intro (H3.out.2.keep qq) (Nd.new hle hlie)))
    have HRm := Lib.hid (HY.out.1 ma mc)
    have HZm := Lib.hid (HY.out.2.1 ma mc)
    have HLm := Lib.hid (HY.out.2.2.1 ma mc)
    have HNm := Lib.hid (HY.out.2.2.2.1 ma mc)
    have HFm := Lib.hid (HY.out.2.2.2.2 ma mc)
    clear hle hlie q4 qq x0 x1 x2 x3 x4 x5 x6 x7
    go_upto_region 4 with fail
    generalize (w4.alloc (.cells (ncells M ma mc) 27)) = V4 at *
    generalize w4.heap.size = n2 at *
    obtain ⟨x0, x1, x2, x3, x4, x5, x6, x7⟩ := (cells8 H4.out.2.2.cell).1
    go_wp2_with fail
    refine (HX.out.2 ma mc V4 H4.out.2.2.lie H4.out.2.2.le).mono ?_
    rintro e w5 ⟨⟨v, rfl, ka, kc, rfl, hle, hlie⟩, q5⟩
    have qq := q5.alloc (.cells (ncells M ka kc) 27)
    have H5 := Lib.hid (And.intro (H4.out.1.trans qq) (And.intro (H4.out.2.1.keep qq) (And.intro (H4.out.2.2.keep qq) (Nd.new hle hlie))))
    clear hle hlie q5 qq x0 x1 x2 x3 x4 x5 x6 x7
    go_upto_region 5 with fail
    generalize (w5.alloc (.cells (ncells M ka kc) 27)) = W4 at *
    generalize w5.heap.size = n3 at *
    have hgt : ¬ (ct : Int) < (cm : Int) := by have := HCC.out.2; omega
    have hgd : decide ((ct : Int) < (cm : Int)) = false := decide_eq_false hgt
    have hs : ∀ W', Keep (fun _ => False) W4 W' → (fun w' => Keep (fun _ => False) W4 w' ∧ w'.cell? ⟨n1, 0, none⟩ = some (.int .i64 t.kind) ∧ w'.cell? ⟨n1, 1, none⟩ = some (.int .u64 t.set.x0) ∧ w'.cell? ⟨n1, 2, none⟩ = some (.int .u64 t.set.x1) ∧ w'.cell? ⟨n1, 3, none⟩ = some (.int .u64 t.set.x2) ∧ w'.cell? ⟨n1, 4, none⟩ = some (.int .u64 t.set.x3) ∧ w'.cell? ⟨n1, 5, none⟩ = some (.int .i64 t.mn) ∧ w'.cell? ⟨n1, 6, none⟩ = some (.int .i64 t.mx) ∧ w'.cell? ⟨n1, 7, none⟩ = some (.slice a t.subs.length c) ∧ w'.cell? ⟨n2, 0, none⟩ = some (.int .i64 M.kind) ∧ w'.cell? ⟨n2, 1, none⟩ = some (.int .u64 M.set.x0) ∧ w'.cell? ⟨n2, 2, none⟩ = some (.int .u64 M.set.x1) ∧ w'.cell? ⟨n2, 3, none⟩ = some (.int .u64 M.set.x2) ∧ w'.cell? ⟨n2, 4, none⟩ = some (.int .u64 M.set.x3) ∧ w'.cell? ⟨n2, 5, none⟩ = some (.int .i64 M.mn) ∧ w'.cell? ⟨n2, 6, none⟩ = some (.int .i64 M.mx) ∧ w'.cell? ⟨n2, 7, none⟩ = some (.slice ma M.subs.length mc) ∧ w'.cell? ⟨n3, 0, none⟩ = some (.int .i64 M.kind) ∧ w'.cell? ⟨n3, 1, none⟩ = some (.int .u64 M.set.x0) ∧ w'.cell? ⟨n3, 2, none⟩ = some (.int .u64 M.set.x1) ∧ w'.cell? ⟨n3, 3, none⟩ = some (.int .u64 M.set.x2) ∧ w'.cell? ⟨n3, 4, none⟩ = some (.int .u64 M.set.x3) ∧ w'.cell? ⟨n3, 5, none⟩ = some (.int .i64 M.mn) ∧ w'.cell? ⟨n3, 6, none⟩ = some (.int .i64 M.mx) ∧ w'.cell? ⟨n3, 7, none⟩ = some (.slice ka M.subs.length kc)) W' := fun W' q => by
      obtain ⟨x0, x1, x2, x3, x4, x5, x6, x7⟩ := (cells8 (H5.out.2.1.cell.keep q (fun h => h))).1
      obtain ⟨y0, y1, y2, y3, y4, y5, y6, y7⟩ := (cells8 (H5.out.2.2.1.cell.keep q (fun h => h))).1
      obtain ⟨z0, z1, z2, z3, z4, z5, z6, z7⟩ := (cells8 (H5.out.2.2.2.cell.keep q (fun h => h))).1
      exact ⟨q, x0, x1, x2, x3, x4, x5, x6, x7, y0, y1, y2, y3, y4, y5, y6, y7, z0, z1, z2, z3, z4, z5, z6, z7⟩
    have HS := Lib.hid hs
    have HL := Lib.hid (And.intro H5.out.2.1.lie (And.intro H5.out.2.2.1.lie H5.out.2.2.2.lie))
    clear hs
    refine wp_region_noPanic ?_
    refine wp_region_held_drew (S := (fun w' => Keep (fun _ => False) W4 w' ∧ w'.cell? ⟨n1, 0, none⟩ = some (.int .i64 t.kind) ∧ w'.cell? ⟨n1, 1, none⟩ = some (.int .u64 t.set.x0) ∧ w'.cell? ⟨n1, 2, none⟩ = some (.int .u64 t.set.x1) ∧ w'.cell? ⟨n1, 3, none⟩ = some (.int .u64 t.set.x2) ∧ w'.cell? ⟨n1, 4, none⟩ = some (.int .u64 t.set.x3) ∧ w'.cell? ⟨n1, 5, none⟩ = some (.int .i64 t.mn) ∧ w'.cell? ⟨n1, 6, none⟩ = some (.int .i64 t.mx) ∧ w'.cell? ⟨n1, 7, none⟩ = some (.slice a t.subs.length c) ∧ w'.cell? ⟨n2, 0, none⟩ = some (.int .i64 M.kind) ∧ w'.cell? ⟨n2, 1, none⟩ = some (.int .u64 M.set.x0) ∧ w'.cell? ⟨n2, 2, none⟩ = some (.int .u64 M.set.x1) ∧ w'.cell? ⟨n2, 3, none⟩ = some (.int .u64 M.set.x2) ∧ w'.cell? ⟨n2, 4, none⟩ = some (.int .u64 M.set.x3) ∧ w'.cell? ⟨n2, 5, none⟩ = some (.int .i64 M.mn) ∧ w'.cell? ⟨n2, 6, none⟩ = some (.int .i64 M.mx) ∧ w'.cell? ⟨n2, 7, none⟩ = some (.slice ma M.subs.length mc) ∧ w'.cell? ⟨n3, 0, none⟩ = some (.int .i64 M.kind) ∧ w'.cell? ⟨n3, 1, none⟩ = some (.int .u64 M.set.x0) ∧ w'.cell? ⟨n3, 2, none⟩ = some (.int .u64 M.set.x1) ∧ w'.cell? ⟨n3, 3, none⟩ = some (.int .u64 M.set.x2) ∧ w'.cell? ⟨n3, 4, none⟩ = some (.int .u64 M.set.x3) ∧ w'.cell? ⟨n3, 5, none⟩ = some (.int .i64 M.mn) ∧ w'.cell? ⟨n3, 6, none⟩ = some (.int .i64 M.mx) ∧ w'.cell? ⟨n3, 7, none⟩ = some (.slice ka M.subs.length kc))) (by kernel_rfl) ?_ (fun hHeld => ?_)
    · exact HS.out _ ((Keep.refl _ _).drew)
    refine wpAnyH_take (i := 0) (oi := { dst := some 33, op := Go.Op.move (Go.Operand.tmp 4), type := 30, pos := "law.go:48", after := #[], guard := none }) (v := ?_) rfl (by kernel_rfl) (by kernel_rfl) (by kernel_rfl) (fun _ _ _ h => h) (Or.inl ⟨by rfl, ?_⟩) (by assumption) ?_
    rotate_left 1
    · (intro w hSw; (try dsimp only at hSw); go_simp; first | done | with_reducible rfl)
    try simp only [Act.put, List.setIfInBounds_toArray, List.set_cons_zero, List.set_cons_succ]
    refine wpAnyH_take (i := 1) (oi := { dst := some 34, op := Go.Op.binOp Go.BinOp.neq 30 (Go.Operand.tmp 33) (Go.Operand.const (Go.Value.int Go.IntKind.i64 0)) 30, type := 4, pos := "law.go:48", after := #[{ on := 0, ground := Go.Ground.data }], guard := none }) (v := ?_) rfl (by kernel_rfl) (by kernel_rfl) (by kernel_rfl) (fun _ _ _ h => h) (Or.inl ⟨by rfl, ?_⟩) (by assumption) ?_
    rotate_left 1
    · (intro w hSw; (try dsimp only at hSw); go_simp; first | done | with_reducible rfl)
    try simp only [Act.put, List.setIfInBounds_toArray, List.set_cons_zero, List.set_cons_succ]
    refine wpAnyH_take (i := 2) (oi := { dst := some 35, op := Go.Op.move (Go.Operand.tmp 34), type := 4, pos := "law.go:48", after := #[{ on := 1, ground := Go.Ground.data }], guard := none }) (v := ?_) rfl (by kernel_rfl) (by kernel_rfl) (by kernel_rfl) (fun _ _ _ h => h) (Or.inl ⟨by rfl, ?_⟩) (by assumption) ?_
    rotate_left 1
    · (intro w hSw; (try dsimp only at hSw); go_simp; first | done | with_reducible rfl)
    try simp only [Act.put, List.setIfInBounds_toArray, List.set_cons_zero, List.set_cons_succ]
    refine wpAnyH_take (i := 3) (oi := { dst := some 36, op := Go.Op.move (Go.Operand.tmp 6), type := 30, pos := "law.go:48", after := #[{ on := 2, ground := Go.Ground.guard }], guard := some (2, false) }) (v := ?_) rfl (by kernel_rfl) (by kernel_rfl) (by kernel_rfl) (fun _ _ _ h => h) (Or.inl ⟨by rfl, ?_⟩) (by assumption) ?_
    rotate_left 1
    · (intro w hSw; (try dsimp only at hSw); go_simp; first | done | with_reducible rfl)
    try simp only [Act.put, List.setIfInBounds_toArray, List.set_cons_zero, List.set_cons_succ]
    refine wpAnyH_take (i := 4) (oi := { dst := some 37, op := Go.Op.binOp Go.BinOp.neq 30 (Go.Operand.tmp 36) (Go.Operand.const (Go.Value.int Go.IntKind.i64 0)) 30, type := 4, pos := "law.go:48", after := #[{ on := 3, ground := Go.Ground.data }, { on := 2, ground := Go.Ground.guard }], guard := some (2, false) }) (v := ?_) rfl (by kernel_rfl) (by kernel_rfl) (by kernel_rfl) (fun _ _ _ h => h) (Or.inl ⟨by rfl, ?_⟩) (by assumption) ?_
    rotate_left 1
    · (intro w hSw; (try dsimp only at hSw); go_simp; first | done | with_reducible rfl)
    try simp only [Act.put, List.setIfInBounds_toArray, List.set_cons_zero, List.set_cons_succ]
    refine wpAnyH_take (i := 5) (oi := { dst := some 38, op := Go.Op.pick (Go.Operand.tmp 35) (Go.Operand.const (Go.Value.bool true)) (Go.Operand.tmp 37), type := 4, pos := "law.go:48", after := #[{ on := 2, ground := Go.Ground.data }, { on := 4, ground := Go.Ground.data }], guard := none }) (v := ?_) rfl (by kernel_rfl) (by kernel_rfl) (by kernel_rfl) (fun _ _ _ h => h) (Or.inl ⟨by rfl, ?_⟩) (by assumption) ?_
    rotate_left 1
    · (intro w hSw; (try dsimp only at hSw); go_simp; first | done | with_reducible rfl)
    try simp only [Act.put, List.setIfInBounds_toArray, List.set_cons_zero, List.set_cons_succ]
    refine wpAnyH_take (i := 6) (oi := { dst := some 39, op := Go.Op.move (Go.Operand.tmp 38), type := 4, pos := "law.go:48", after := #[{ on := 5, ground := Go.Ground.data }, { on := 2, ground := Go.Ground.chain }], guard := none }) (v := ?_) rfl (by kernel_rfl) (by kernel_rfl) (by kernel_rfl) (fun _ _ _ h => h) (Or.inl ⟨by rfl, ?_⟩) (by assumption) ?_
    rotate_left 1
    · (intro w hSw; (try dsimp only at hSw); go_simp; first | done | with_reducible rfl)
    try simp only [Act.put, List.setIfInBounds_toArray, List.set_cons_zero, List.set_cons_succ]
    refine wpAnyH_take (i := 7) (oi := { dst := some 40, op := Go.Op.load 27 (Go.Operand.tmp 3), type := 27, pos := "law.go:48", after := #[{ on := 6, ground := Go.Ground.guard }], guard := some (6, false) }) (v := ?_) rfl (by kernel_rfl) (by kernel_rfl) (by kernel_rfl) (fun _ _ _ h => h) (Or.inl ⟨by rfl, ?_⟩) (by assumption) ?_
    rotate_left 1
    · (intro w hSw; (try dsimp only at hSw); go_simp; first | done | with_reducible rfl)
    try simp only [Act.put, List.setIfInBounds_toArray, List.set_cons_zero, List.set_cons_succ]
    refine wpAnyH_ready (rs := [8]) (by kernel_rfl) (by simp) ?_
    refine AllReadyH.cons (o := { dst := some 41, op := Go.Op.call { callee := Go.Callee.value (Go.Operand.func 10), args := #[Go.Operand.tmp 40], argTypes := #[27] }, type := 4, pos := "law.go:48", after := #[{ on := 7, ground := Go.Ground.data }, { on := 6, ground := Go.Ground.chain }, { on := 6, ground := Go.Ground.guard }], guard := some (6, false) }) rfl (fun K hK => ?_) AllReadyH.nil
    go_simp
    (go_at_call 10; refine (HRm.out _ (HL.out.2.1.keepF (And.left hHeld))).mono ?_; rintro e w2 ⟨rfl, q⟩)
    refine hK.out _ _ ?_ (fun hHeld' => ?_)
    · exact HS.out _ (Keep.trans (And.left hHeld) q)
    clear hK K hHeld
    have hHeld := hHeld'
    clear hHeld'
    try simp only [Act.put, List.setIfInBounds_toArray, List.set_cons_zero, List.set_cons_succ]
    refine wpAnyH_take (i := 9) (oi := { dst := some 42, op := Go.Op.unOp Go.UnOp.not 4 (Go.Operand.tmp 41), type := 4, pos := "law.go:48", after := #[{ on := 8, ground := Go.Ground.data }, { on := 6, ground := Go.Ground.guard }], guard := some (6, false) }) (v := ?_) rfl (by kernel_rfl) (by kernel_rfl) (by kernel_rfl) (fun _ _ _ h => h) (Or.inl ⟨by rfl, ?_⟩) (by assumption) ?_
    rotate_left 1
    · (intro w hSw; (try dsimp only at hSw); go_simp; first | done | with_reducible rfl)
    try simp only [Act.put, List.setIfInBounds_toArray, List.set_cons_zero, List.set_cons_succ]
    refine wpAnyH_take (i := 10) (oi := { dst := some 43, op := Go.Op.pick (Go.Operand.tmp 39) (Go.Operand.const (Go.Value.bool true)) (Go.Operand.tmp 42), type := 4, pos := "law.go:48", after := #[{ on := 6, ground := Go.Ground.data }, { on := 9, ground := Go.Ground.data }], guard := none }) (v := ?_) rfl (by kernel_rfl) (by kernel_rfl) (by kernel_rfl) (fun _ _ _ h => h) (Or.inl ⟨by rfl, ?_⟩) (by assumption) ?_
    rotate_left 1
    · (intro w hSw; (try dsimp only at hSw); go_simp; first | done | with_reducible rfl)
    try simp only [Act.put, List.setIfInBounds_toArray, List.set_cons_zero, List.set_cons_succ]
    refine wpAnyH_take (i := 11) (oi := { dst := some 44, op := Go.Op.move (Go.Operand.tmp 43), type := 4, pos := "law.go:48", after := #[{ on := 10, ground := Go.Ground.data }, { on := 8, ground := Go.Ground.chain }], guard := none }) (v := ?_) rfl (by kernel_rfl) (by kernel_rfl) (by kernel_rfl) (fun _ _ _ h => h) (Or.inl ⟨by rfl, ?_⟩) (by assumption) ?_
    rotate_left 1
    · (intro w hSw; (try dsimp only at hSw); go_simp; first | done | with_reducible rfl)
    try simp only [Act.put, List.setIfInBounds_toArray, List.set_cons_zero, List.set_cons_succ]
    refine wpAnyH_take (i := 12) (oi := { dst := some 45, op := Go.Op.load 27 (Go.Operand.tmp 3), type := 27, pos := "law.go:48", after := #[{ on := 11, ground := Go.Ground.guard }], guard := some (11, false) }) (v := ?_) rfl (by kernel_rfl) (by kernel_rfl) (by kernel_rfl) (fun _ _ _ h => h) (Or.inl ⟨by rfl, ?_⟩) (by assumption) ?_
    rotate_left 1
    · (intro w hSw; (try dsimp only at hSw); go_simp; first | done | with_reducible rfl)
    try simp only [Act.put, List.setIfInBounds_toArray, List.set_cons_zero, List.set_cons_succ]
    refine wpAnyH_take (i := 13) (oi := { dst := some 46, op := Go.Op.load 27 (Go.Operand.tmp 5), type := 27, pos := "law.go:48", after := #[{ on := 11, ground := Go.Ground.guard }], guard := some (11, false) }) (v := ?_) rfl (by kernel_rfl) (by kernel_rfl) (by kernel_rfl) (fun _ _ _ h => h) (Or.inl ⟨by rfl, ?_⟩) (by assumption) ?_
    rotate_left 1
    · (intro w hSw; (try dsimp only at hSw); go_simp; first | done | with_reducible rfl)
    try simp only [Act.put, List.setIfInBounds_toArray, List.set_cons_zero, List.set_cons_succ]
    refine wpAnyH_ready (rs := [14]) (by kernel_rfl) (by simp) ?_
    refine AllReadyH.cons (o := { dst := some 47, op := Go.Op.call { callee := Go.Callee.value (Go.Operand.func 11), args := #[Go.Operand.tmp 45, Go.Operand.tmp 46], argTypes := #[27, 27] }, type := 4, pos := "law.go:48", after := #[{ on := 12, ground := Go.Ground.data }, { on := 13, ground := Go.Ground.data }, { on := 11, ground := Go.Ground.chain }, { on := 11, ground := Go.Ground.guard }], guard := some (11, false) }) rfl (fun K hK => ?_) AllReadyH.nil
    go_simp
    (go_at_call 11; refine (same_yes M ma mc ka kc _ (HL.out.2.1.keepF (And.left hHeld)) (HL.out.2.2.keepF (And.left hHeld))).mono ?_; rintro e w2 ⟨rfl, q⟩)
    refine hK.out _ _ ?_ (fun hHeld' => ?_)
    · exact HS.out _ (Keep.trans (And.left hHeld) q)
    clear hK K hHeld
    have hHeld := hHeld'
    clear hHeld'
    try simp only [Act.put, List.setIfInBounds_toArray, List.set_cons_zero, List.set_cons_succ]
    refine wpAnyH_take (i := 15) (oi := { dst := some 48, op := Go.Op.unOp Go.UnOp.not 4 (Go.Operand.tmp 47), type := 4, pos := "law.go:48", after := #[{ on := 14, ground := Go.Ground.data }, { on := 11, ground := Go.Ground.guard }], guard := some (11, false) }) (v := ?_) rfl (by kernel_rfl) (by kernel_rfl) (by kernel_rfl) (fun _ _ _ h => h) (Or.inl ⟨by rfl, ?_⟩) (by assumption) ?_
    rotate_left 1
    · (intro w hSw; (try dsimp only at hSw); go_simp; first | done | with_reducible rfl)
    try simp only [Act.put, List.setIfInBounds_toArray, List.set_cons_zero, List.set_cons_succ]
    refine wpAnyH_take (i := 16) (oi := { dst := some 49, op := Go.Op.pick (Go.Operand.tmp 44) (Go.Operand.const (Go.Value.bool true)) (Go.Operand.tmp 48), type := 4, pos := "law.go:48", after := #[{ on := 11, ground := Go.Ground.data }, { on := 15, ground := Go.Ground.data }], guard := none }) (v := ?_) rfl (by kernel_rfl) (by kernel_rfl) (by kernel_rfl) (fun _ _ _ h => h) (Or.inl ⟨by rfl, ?_⟩) (by assumption) ?_
    rotate_left 1
    · (intro w hSw; (try dsimp only at hSw); go_simp; first | done | with_reducible rfl)
    try simp only [Act.put, List.setIfInBounds_toArray, List.set_cons_zero, List.set_cons_succ]
    refine wpAnyH_take (i := 17) (oi := { dst := some 50, op := Go.Op.move (Go.Operand.tmp 49), type := 4, pos := "law.go:48", after := #[{ on := 16, ground := Go.Ground.data }, { on := 14, ground := Go.Ground.chain }], guard := none }) (v := ?_) rfl (by kernel_rfl) (by kernel_rfl) (by kernel_rfl) (fun _ _ _ h => h) (Or.inl ⟨by rfl, ?_⟩) (by assumption) ?_
    rotate_left 1
    · (intro w hSw; (try dsimp only at hSw); go_simp; first | done | with_reducible rfl)
    try simp only [Act.put, List.setIfInBounds_toArray, List.set_cons_zero, List.set_cons_succ]
    refine wpAnyH_take (i := 18) (oi := { dst := some 51, op := Go.Op.load 27 (Go.Operand.tmp 3), type := 27, pos := "law.go:48", after := #[{ on := 17, ground := Go.Ground.guard }], guard := some (17, false) }) (v := ?_) rfl (by kernel_rfl) (by kernel_rfl) (by kernel_rfl) (fun _ _ _ h => h) (Or.inl ⟨by rfl, ?_⟩) (by assumption) ?_
    rotate_left 1
    · (intro w hSw; (try dsimp only at hSw); go_simp; first | done | with_reducible rfl)
    try simp only [Act.put, List.setIfInBounds_toArray, List.set_cons_zero, List.set_cons_succ]
    refine wpAnyH_take (i := 20) (oi := { dst := some 53, op := Go.Op.load 27 (Go.Operand.tmp 1), type := 27, pos := "law.go:48", after := #[{ on := 17, ground := Go.Ground.guard }], guard := some (17, false) }) (v := ?_) rfl (by kernel_rfl) (by kernel_rfl) (by kernel_rfl) (fun _ _ _ h => h) (Or.inl ⟨by rfl, ?_⟩) (by assumption) ?_
    rotate_left 1
    · (intro w hSw; (try dsimp only at hSw); go_simp; first | done | with_reducible rfl)
    try simp only [Act.put, List.setIfInBounds_toArray, List.set_cons_zero, List.set_cons_succ]
    refine wpAnyH_ready (rs := [19]) (by kernel_rfl) (by simp) ?_
    refine AllReadyH.cons (o := { dst := some 52, op := Go.Op.call { callee := Go.Callee.value (Go.Operand.func 13), args := #[Go.Operand.tmp 51], argTypes := #[27] }, type := 3, pos := "law.go:48", after := #[{ on := 18, ground := Go.Ground.data }, { on := 17, ground := Go.Ground.chain }, { on := 17, ground := Go.Ground.guard }], guard := some (17, false) }) rfl (fun K hK => ?_) AllReadyH.nil
    go_simp
    (go_at_call 13; refine (HZm.out _ (HL.out.2.1.keepF (And.left hHeld))).mono ?_; rintro e w2 ⟨rfl, q⟩)
    refine hK.out _ _ ?_ (fun hHeld' => ?_)
    · exact HS.out _ (Keep.trans (And.left hHeld) q)
    clear hK K hHeld
    have hHeld := hHeld'
    clear hHeld'
    try simp only [Act.put, List.setIfInBounds_toArray, List.set_cons_zero, List.set_cons_succ]
    refine wpAnyH_ready (rs := [21]) (by kernel_rfl) (by simp) ?_
    refine AllReadyH.cons (o := { dst := some 54, op := Go.Op.call { callee := Go.Callee.value (Go.Operand.func 13), args := #[Go.Operand.tmp 53], argTypes := #[27] }, type := 3, pos := "law.go:48", after := #[{ on := 20, ground := Go.Ground.data }, { on := 19, ground := Go.Ground.chain }, { on := 17, ground := Go.Ground.guard }], guard := some (17, false) }) rfl (fun K hK => ?_) AllReadyH.nil
    go_simp
    (go_at_call 13; refine (HZt.out _ (HL.out.1.keepF (And.left hHeld))).mono ?_; rintro e w2 ⟨rfl, q⟩)
    refine hK.out _ _ ?_ (fun hHeld' => ?_)
    · exact HS.out _ (Keep.trans (And.left hHeld) q)
    clear hK K hHeld
    have hHeld := hHeld'
    clear hHeld'
    try simp only [Act.put, List.setIfInBounds_toArray, List.set_cons_zero, List.set_cons_succ]
    refine wpAnyH_take (i := 22) (oi := { dst := some 55, op := Go.Op.binOp Go.BinOp.gtr 3 (Go.Operand.tmp 52) (Go.Operand.tmp 54) 3, type := 4, pos := "law.go:48", after := #[{ on := 19, ground := Go.Ground.data }, { on := 21, ground := Go.Ground.data }, { on := 17, ground := Go.Ground.guard }], guard := some (17, false) }) (v := (.bool false)) rfl (by kernel_rfl) (by kernel_rfl) (by kernel_rfl) (fun _ _ _ h => h) (Or.inl ⟨by rfl, ?_⟩) (by assumption) ?_
    · (intro w hSw; (try dsimp only at hSw); go_simp; first | done | with_reducible rfl | (simp [hgd]; done) | (simp; omega))
    try simp only [Act.put, List.setIfInBounds_toArray, List.set_cons_zero, List.set_cons_succ]
    refine wpAnyH_take (i := 23) (oi := { dst := some 56, op := Go.Op.pick (Go.Operand.tmp 50) (Go.Operand.const (Go.Value.bool true)) (Go.Operand.tmp 55), type := 4, pos := "law.go:48", after := #[{ on := 17, ground := Go.Ground.data }, { on := 22, ground := Go.Ground.data }], guard := none }) (v := ?_) rfl (by kernel_rfl) (by kernel_rfl) (by kernel_rfl) (fun _ _ _ h => h) (Or.inl ⟨by rfl, ?_⟩) (by assumption) ?_
    rotate_left 1
    · (intro w hSw; (try dsimp only at hSw); go_simp; first | done | with_reducible rfl)
    try simp only [Act.put, List.setIfInBounds_toArray, List.set_cons_zero, List.set_cons_succ]
    refine wpAnyH_done (by kernel_rfl) ?_ _
    refine NoPanic.normal ?_
    have hK := And.left hHeld
    have H6 := Lib.hid (And.intro (H5.out.1.trans hK) (And.intro (H5.out.2.1.keep hK) (And.intro (H5.out.2.2.1.keep hK) (H5.out.2.2.2.keep hK))))
    clear hHeld hK HS HL hgt hgd q
    generalize w2 = W6 at *
    go_upto_region 7 with fail
    have hs : ∀ W', Keep (fun _ => False) W6 W' → (fun w' => Keep (fun _ => False) W6 w' ∧ w'.cell? ⟨n1, 0, none⟩ = some (.int .i64 t.kind) ∧ w'.cell? ⟨n1, 1, none⟩ = some (.int .u64 t.set.x0) ∧ w'.cell? ⟨n1, 2, none⟩ = some (.int .u64 t.set.x1) ∧ w'.cell? ⟨n1, 3, none⟩ = some (.int .u64 t.set.x2) ∧ w'.cell? ⟨n1, 4, none⟩ = some (.int .u64 t.set.x3) ∧ w'.cell? ⟨n1, 5, none⟩ = some (.int .i64 t.mn) ∧ w'.cell? ⟨n1, 6, none⟩ = some (.int .i64 t.mx) ∧ w'.cell? ⟨n1, 7, none⟩ = some (.slice a t.subs.length c) ∧ w'.cell? ⟨n2, 0, none⟩ = some (.int .i64 M.kind) ∧ w'.cell? ⟨n2, 1, none⟩ = some (.int .u64 M.set.x0) ∧ w'.cell? ⟨n2, 2, none⟩ = some (.int .u64 M.set.x1) ∧ w'.cell? ⟨n2, 3, none⟩ = some (.int .u64 M.set.x2) ∧ w'.cell? ⟨n2, 4, none⟩ = some (.int .u64 M.set.x3) ∧ w'.cell? ⟨n2, 5, none⟩ = some (.int .i64 M.mn) ∧ w'.cell? ⟨n2, 6, none⟩ = some (.int .i64 M.mx) ∧ w'.cell? ⟨n2, 7, none⟩ = some (.slice ma M.subs.length mc) ∧ w'.cell? ⟨n3, 0, none⟩ = some (.int .i64 M.kind) ∧ w'.cell? ⟨n3, 1, none⟩ = some (.int .u64 M.set.x0) ∧ w'.cell? ⟨n3, 2, none⟩ = some (.int .u64 M.set.x1) ∧ w'.cell? ⟨n3, 3, none⟩ = some (.int .u64 M.set.x2) ∧ w'.cell? ⟨n3, 4, none⟩ = some (.int .u64 M.set.x3) ∧ w'.cell? ⟨n3, 5, none⟩ = some (.int .i64 M.mn) ∧ w'.cell? ⟨n3, 6, none⟩ = some (.int .i64 M.mx) ∧ w'.cell? ⟨n3, 7, none⟩ = some (.slice ka M.subs.length kc)) W' := fun W' q => by
      obtain ⟨x0, x1, x2, x3, x4, x5, x6, x7⟩ := (cells8 (H6.out.2.1.cell.keep q (fun h => h))).1
      obtain ⟨y0, y1, y2, y3, y4, y5, y6, y7⟩ := (cells8 (H6.out.2.2.1.cell.keep q (fun h => h))).1
      obtain ⟨z0, z1, z2, z3, z4, z5, z6, z7⟩ := (cells8 (H6.out.2.2.2.cell.keep q (fun h => h))).1
      exact ⟨q, x0, x1, x2, x3, x4, x5, x6, x7, y0, y1, y2, y3, y4, y5, y6, y7, z0, z1, z2, z3, z4, z5, z6, z7⟩
    have HS := Lib.hid hs
    have HL := Lib.hid (And.intro H6.out.2.1.lie (And.intro H6.out.2.2.1.lie H6.out.2.2.2.lie))
    clear hs
    refine wp_region_noPanic ?_
    refine wp_region_held_drew (S := (fun w' => Keep (fun _ => False) W6 w' ∧ w'.cell? ⟨n1, 0, none⟩ = some (.int .i64 t.kind) ∧ w'.cell? ⟨n1, 1, none⟩ = some (.int .u64 t.set.x0) ∧ w'.cell? ⟨n1, 2, none⟩ = some (.int .u64 t.set.x1) ∧ w'.cell? ⟨n1, 3, none⟩ = some (.int .u64 t.set.x2) ∧ w'.cell? ⟨n1, 4, none⟩ = some (.int .u64 t.set.x3) ∧ w'.cell? ⟨n1, 5, none⟩ = some (.int .i64 t.mn) ∧ w'.cell? ⟨n1, 6, none⟩ = some (.int .i64 t.mx) ∧ w'.cell? ⟨n1, 7, none⟩ = some (.slice a t.subs.length c) ∧ w'.cell? ⟨n2, 0, none⟩ = some (.int .i64 M.kind) ∧ w'.cell? ⟨n2, 1, none⟩ = some (.int .u64 M.set.x0) ∧ w'.cell? ⟨n2, 2, none⟩ = some (.int .u64 M.set.x1) ∧ w'.cell? ⟨n2, 3, none⟩ = some (.int .u64 M.set.x2) ∧ w'.cell? ⟨n2, 4, none⟩ = some (.int .u64 M.set.x3) ∧ w'.cell? ⟨n2, 5, none⟩ = some (.int .i64 M.mn) ∧ w'.cell? ⟨n2, 6, none⟩ = some (.int .i64 M.mx) ∧ w'.cell? ⟨n2, 7, none⟩ = some (.slice ma M.subs.length mc) ∧ w'.cell? ⟨n3, 0, none⟩ = some (.int .i64 M.kind) ∧ w'.cell? ⟨n3, 1, none⟩ = some (.int .u64 M.set.x0) ∧ w'.cell? ⟨n3, 2, none⟩ = some (.int .u64 M.set.x1) ∧ w'.cell? ⟨n3, 3, none⟩ = some (.int .u64 M.set.x2) ∧ w'.cell? ⟨n3, 4, none⟩ = some (.int .u64 M.set.x3) ∧ w'.cell? ⟨n3, 5, none⟩ = some (.int .i64 M.mn) ∧ w'.cell? ⟨n3, 6, none⟩ = some (.int .i64 M.mx) ∧ w'.cell? ⟨n3, 7, none⟩ = some (.slice ka M.subs.length kc))) (by kernel_rfl) ?_ (fun hHeld => ?_)
    · exact HS.out _ ((Keep.refl _ _).drew)
    refine wpAnyH_take (i := 0) (oi := { dst := some 57, op := Go.Op.load 27 (Go.Operand.tmp 1), type := 27, pos := "law.go:51", after := #[], guard := none }) (v := ?_) rfl (by kernel_rfl) (by kernel_rfl) (by kernel_rfl) (fun _ _ _ h => h) (Or.inl ⟨by rfl, ?_⟩) (by assumption) ?_
    rotate_left 1
    · (intro w hSw; (try dsimp only at hSw); go_simp; first | done | with_reducible rfl)
    try simp only [Act.put, List.setIfInBounds_toArray, List.set_cons_zero, List.set_cons_succ]
    refine wpAnyH_take (i := 2) (oi := { dst := some 59, op := Go.Op.load 27 (Go.Operand.tmp 3), type := 27, pos := "law.go:51", after := #[], guard := none }) (v := ?_) rfl (by kernel_rfl) (by kernel_rfl) (by kernel_rfl) (fun _ _ _ h => h) (Or.inl ⟨by rfl, ?_⟩) (by assumption) ?_
    rotate_left 1
    · (intro w hSw; (try dsimp only at hSw); go_simp; first | done | with_reducible rfl)
    try simp only [Act.put, List.setIfInBounds_toArray, List.set_cons_zero, List.set_cons_succ]
    refine wpAnyH_ready (rs := [1]) (by kernel_rfl) (by simp) ?_
    refine AllReadyH.cons (o := { dst := some 58, op := Go.Op.call { callee := Go.Callee.value (Go.Operand.func 14), args := #[Go.Operand.tmp 57, Go.Operand.const (Go.Value.int Go.IntKind.i64 10)], argTypes := #[27, 3] }, type := 36, pos := "law.go:51", after := #[{ on := 0, ground := Go.Ground.data }], guard := none }) rfl (fun K hK => ?_) AllReadyH.nil
    go_simp
    (go_at_call 14; refine (HLt.out _ (HL.out.1.keepF (And.left hHeld))).mono ?_; rintro e w2 ⟨g, rfl, hg, hatA, q⟩)
    refine hK.out _ _ ?_ (fun hHeld' => ?_)
    · exact HS.out _ (Keep.trans (And.left hHeld) q)
    clear hK K hHeld
    have hHeld := hHeld'
    clear hHeld'
    try simp only [Act.put, List.setIfInBounds_toArray, List.set_cons_zero, List.set_cons_succ]
    refine wpAnyH_ready (rs := [3]) (by kernel_rfl) (by simp) ?_
    refine AllReadyH.cons (o := { dst := some 60, op := Go.Op.call { callee := Go.Callee.value (Go.Operand.func 14), args := #[Go.Operand.tmp 59, Go.Operand.const (Go.Value.int Go.IntKind.i64 10)], argTypes := #[27, 3] }, type := 36, pos := "law.go:51", after := #[{ on := 2, ground := Go.Ground.data }, { on := 1, ground := Go.Ground.chain }], guard := none }) rfl (fun K hK => ?_) AllReadyH.nil
    go_simp
    (go_at_call 14; refine (HLm.out _ (HL.out.2.1.keepF (And.left hHeld))).mono ?_; rintro e w2 ⟨g2, rfl, hg2, hatB, q⟩; have hatC := hatA.keep q (fun h => absurd h (by simp)))
    refine hK.out _ _ ?_ (fun hHeld' => ?_)
    · exact HS.out _ (Keep.trans (And.left hHeld) q)
    clear hK K hHeld
    have hHeld := hHeld'
    clear hHeld'
    try simp only [Act.put, List.setIfInBounds_toArray, List.set_cons_zero, List.set_cons_succ]
    refine wpAnyH_take (i := 4) (oi := { dst := some 7, op := Go.Op.assign (Go.Operand.tmp 58), type := 36, pos := "law.go:51", after := #[{ on := 1, ground := Go.Ground.data }, { on := 3, ground := Go.Ground.chain }, { on := 0, ground := Go.Ground.phase }, { on := 1, ground := Go.Ground.phase }, { on := 2, ground := Go.Ground.textOnly Go.Departure.lateStores }, { on := 3, ground := Go.Ground.textOnly Go.Departure.lateStoresUnsure }], guard := none }) (v := ?_) rfl (by kernel_rfl) (by kernel_rfl) (by kernel_rfl) (fun _ _ _ h => h) (Or.inl ⟨by rfl, ?_⟩) (by assumption) ?_
    rotate_left 1
    · (intro w hSw; (try dsimp only at hSw); go_simp; first | done | with_reducible rfl)
    try simp only [Act.put, List.setIfInBounds_toArray, List.set_cons_zero, List.set_cons_succ]
    refine wpAnyH_take (i := 5) (oi := { dst := some 8, op := Go.Op.assign (Go.Operand.tmp 60), type := 36, pos := "law.go:51", after := #[{ on := 3, ground := Go.Ground.data }, { on := 4, ground := Go.Ground.chain }, { on := 0, ground := Go.Ground.phase }, { on := 1, ground := Go.Ground.phase }, { on := 2, ground := Go.Ground.phase }, { on := 3, ground := Go.Ground.phase }, { on := 4, ground := Go.Ground.phase }], guard := none }) (v := ?_) rfl (by kernel_rfl) (by kernel_rfl) (by kernel_rfl) (fun _ _ _ h => h) (Or.inl ⟨by rfl, ?_⟩) (by assumption) ?_
    rotate_left 1
    · (intro w hSw; (try dsimp only at hSw); go_simp; first | done | with_reducible rfl)
    try simp only [Act.put, List.setIfInBounds_toArray, List.set_cons_zero, List.set_cons_succ]
    refine wpAnyH_done (by kernel_rfl) ?_ _
    refine NoPanic.normal ?_
    have hK := And.left hHeld
    have H7 := Lib.hid (And.intro (H6.out.1.trans hK) (And.intro (H6.out.2.1.keep hK) (And.intro (H6.out.2.2.1.keep hK) (H6.out.2.2.2.keep hK))))
    have HAB := Lib.hid (And.intro hatC hatB)
    clear hHeld hK HS HL hatA hatB hatC q hg hg2
    generalize w2 = W7 at *
    go_wp2_with fail
    go_loopg [9, 63] 11 (fun gg s9 i wr => ∃ k : Nat, i = .int .i64 k ∧ k + gg = 11 ∧ Keep (fun _ => False) W7 wr)
    case atStart => exact ⟨0, rfl, by omega, Keep.refl _ _⟩
    case round =>
    obtain ⟨k, rfl, hk, hq⟩ := hrel
    by_cases hlt : k < 11
    · have hlt' : (k : Int) < 11 := by omega
      have k0 : (0 : Int) ≤ k := by omega
      obtain ⟨is, his⟩ : ∃ b, LL.getD k false = b := ⟨_, rfl⟩
      have cA := (HAB.out.1.keep hq (fun h => h)).cell (bcells_get (show LL[k]? = some is from by rw [← his]; exact getD_get (by rw [HLL.out]; omega)))
      have cB := (HAB.out.2.keep hq (fun h => h)).cell (bcells_get (show LL[k]? = some is from by rw [← his]; exact getD_get (by rw [HLL.out]; omega)))
      have HQ := Lib.hid hq
      clear hq his
      go_upto_region 11 with fail
      cases is
      all_goals
        go_quiet (fail)
        go_wp2_with fail
        go_roundg (11 - (k + 1))
        case measure => omega
        case rel => exact ⟨k + 1, by go_num, by omega, HQ.out.drewN _⟩
    · have hke : k = 11 := by omega
      subst hke
      have H8 := Lib.hid (And.intro (H7.out.1.trans hq) (And.intro (H7.out.2.1.keep hq) (And.intro (H7.out.2.2.1.keep hq) (H7.out.2.2.2.keep hq))))
      clear hq
      go_upto_region 14 with fail
      generalize wr = W8 at *
      have hes : ∀ W, (Op.equalIn 10000 24 (val FS) (val FS)).run Try.prog W = .ok true W := fun W => by
        have := eq_set FS FS W
        rw [eqB_refl] at this
        exact this
      have hs : ∀ W', Keep (fun _ => False) W8 W' → (fun w' => Keep (fun _ => False) W8 w' ∧ w'.cell? ⟨n1, 0, none⟩ = some (.int .i64 t.kind) ∧ w'.cell? ⟨n1, 1, none⟩ = some (.int .u64 t.set.x0) ∧ w'.cell? ⟨n1, 2, none⟩ = some (.int .u64 t.set.x1) ∧ w'.cell? ⟨n1, 3, none⟩ = some (.int .u64 t.set.x2) ∧ w'.cell? ⟨n1, 4, none⟩ = some (.int .u64 t.set.x3) ∧ w'.cell? ⟨n1, 5, none⟩ = some (.int .i64 t.mn) ∧ w'.cell? ⟨n1, 6, none⟩ = some (.int .i64 t.mx) ∧ w'.cell? ⟨n1, 7, none⟩ = some (.slice a t.subs.length c) ∧ w'.cell? ⟨n2, 0, none⟩ = some (.int .i64 M.kind) ∧ w'.cell? ⟨n2, 1, none⟩ = some (.int .u64 M.set.x0) ∧ w'.cell? ⟨n2, 2, none⟩ = some (.int .u64 M.set.x1) ∧ w'.cell? ⟨n2, 3, none⟩ = some (.int .u64 M.set.x2) ∧ w'.cell? ⟨n2, 4, none⟩ = some (.int .u64 M.set.x3) ∧ w'.cell? ⟨n2, 5, none⟩ = some (.int .i64 M.mn) ∧ w'.cell? ⟨n2, 6, none⟩ = some (.int .i64 M.mx) ∧ w'.cell? ⟨n2, 7, none⟩ = some (.slice ma M.subs.length mc) ∧ w'.cell? ⟨n3, 0, none⟩ = some (.int .i64 M.kind) ∧ w'.cell? ⟨n3, 1, none⟩ = some (.int .u64 M.set.x0) ∧ w'.cell? ⟨n3, 2, none⟩ = some (.int .u64 M.set.x1) ∧ w'.cell? ⟨n3, 3, none⟩ = some (.int .u64 M.set.x2) ∧ w'.cell? ⟨n3, 4, none⟩ = some (.int .u64 M.set.x3) ∧ w'.cell? ⟨n3, 5, none⟩ = some (.int .i64 M.mn) ∧ w'.cell? ⟨n3, 6, none⟩ = some (.int .i64 M.mx) ∧ w'.cell? ⟨n3, 7, none⟩ = some (.slice ka M.subs.length kc)) W' := fun W' q => by
        obtain ⟨x0, x1, x2, x3, x4, x5, x6, x7⟩ := (cells8 (H8.out.2.1.cell.keep q (fun h => h))).1
        obtain ⟨y0, y1, y2, y3, y4, y5, y6, y7⟩ := (cells8 (H8.out.2.2.1.cell.keep q (fun h => h))).1
        obtain ⟨z0, z1, z2, z3, z4, z5, z6, z7⟩ := (cells8 (H8.out.2.2.2.cell.keep q (fun h => h))).1
        exact ⟨q, x0, x1, x2, x3, x4, x5, x6, x7, y0, y1, y2, y3, y4, y5, y6, y7, z0, z1, z2, z3, z4, z5, z6, z7⟩
      have HS := Lib.hid hs
      have HL := Lib.hid (And.intro H8.out.2.1.lie (And.intro H8.out.2.2.1.lie H8.out.2.2.2.lie))
      clear hs
      refine wp_region_noPanic ?_
      refine wp_region_held_drew (S := (fun w' => Keep (fun _ => False) W8 w' ∧ w'.cell? ⟨n1, 0, none⟩ = some (.int .i64 t.kind) ∧ w'.cell? ⟨n1, 1, none⟩ = some (.int .u64 t.set.x0) ∧ w'.cell? ⟨n1, 2, none⟩ = some (.int .u64 t.set.x1) ∧ w'.cell? ⟨n1, 3, none⟩ = some (.int .u64 t.set.x2) ∧ w'.cell? ⟨n1, 4, none⟩ = some (.int .u64 t.set.x3) ∧ w'.cell? ⟨n1, 5, none⟩ = some (.int .i64 t.mn) ∧ w'.cell? ⟨n1, 6, none⟩ = some (.int .i64 t.mx) ∧ w'.cell? ⟨n1, 7, none⟩ = some (.slice a t.subs.length c) ∧ w'.cell? ⟨n2, 0, none⟩ = some (.int .i64 M.kind) ∧ w'.cell? ⟨n2, 1, none⟩ = some (.int .u64 M.set.x0) ∧ w'.cell? ⟨n2, 2, none⟩ = some (.int .u64 M.set.x1) ∧ w'.cell? ⟨n2, 3, none⟩ = some (.int .u64 M.set.x2) ∧ w'.cell? ⟨n2, 4, none⟩ = some (.int .u64 M.set.x3) ∧ w'.cell? ⟨n2, 5, none⟩ = some (.int .i64 M.mn) ∧ w'.cell? ⟨n2, 6, none⟩ = some (.int .i64 M.mx) ∧ w'.cell? ⟨n2, 7, none⟩ = some (.slice ma M.subs.length mc) ∧ w'.cell? ⟨n3, 0, none⟩ = some (.int .i64 M.kind) ∧ w'.cell? ⟨n3, 1, none⟩ = some (.int .u64 M.set.x0) ∧ w'.cell? ⟨n3, 2, none⟩ = some (.int .u64 M.set.x1) ∧ w'.cell? ⟨n3, 3, none⟩ = some (.int .u64 M.set.x2) ∧ w'.cell? ⟨n3, 4, none⟩ = some (.int .u64 M.set.x3) ∧ w'.cell? ⟨n3, 5, none⟩ = some (.int .i64 M.mn) ∧ w'.cell? ⟨n3, 6, none⟩ = some (.int .i64 M.mx) ∧ w'.cell? ⟨n3, 7, none⟩ = some (.slice ka M.subs.length kc))) (by kernel_rfl) ?_ (fun hHeld => ?_)
      · exact HS.out _ ((Keep.refl _ _).drew)
      refine wpAnyH_take (i := 0) (oi := { dst := some 76, op := Go.Op.load 27 (Go.Operand.tmp 1), type := 27, pos := "law.go:57", after := #[], guard := none }) (v := ?_) rfl (by kernel_rfl) (by kernel_rfl) (by kernel_rfl) (fun _ _ _ h => h) (Or.inl ⟨by rfl, ?_⟩) (by assumption) ?_
      rotate_left 1
      · (intro w hSw; (try dsimp only at hSw); go_simp; first | done | with_reducible rfl)
      try simp only [Act.put, List.setIfInBounds_toArray, List.set_cons_zero, List.set_cons_succ]
      refine wpAnyH_take (i := 2) (oi := { dst := some 78, op := Go.Op.load 27 (Go.Operand.tmp 3), type := 27, pos := "law.go:57", after := #[], guard := none }) (v := ?_) rfl (by kernel_rfl) (by kernel_rfl) (by kernel_rfl) (fun _ _ _ h => h) (Or.inl ⟨by rfl, ?_⟩) (by assumption) ?_
      rotate_left 1
      · (intro w hSw; (try dsimp only at hSw); go_simp; first | done | with_reducible rfl)
      try simp only [Act.put, List.setIfInBounds_toArray, List.set_cons_zero, List.set_cons_succ]
      refine wpAnyH_ready (rs := [1]) (by kernel_rfl) (by simp) ?_
      refine AllReadyH.cons (o := { dst := some 77, op := Go.Op.call { callee := Go.Callee.value (Go.Operand.func 15), args := #[Go.Operand.tmp 76], argTypes := #[27] }, type := 24, pos := "law.go:57", after := #[{ on := 0, ground := Go.Ground.data }], guard := none }) rfl (fun K hK => ?_) AllReadyH.nil
      go_simp
      (go_at_call 15; refine (HFt.out _ (HL.out.1.keepF (And.left hHeld))).mono ?_; rintro e w2 ⟨rfl, q⟩)
      refine hK.out _ _ ?_ (fun hHeld' => ?_)
      · exact HS.out _ (Keep.trans (And.left hHeld) q)
      clear hK K hHeld
      have hHeld := hHeld'
      clear hHeld'
      try simp only [Act.put, List.setIfInBounds_toArray, List.set_cons_zero, List.set_cons_succ]
      refine wpAnyH_ready (rs := [3]) (by kernel_rfl) (by simp) ?_
      refine AllReadyH.cons (o := { dst := some 79, op := Go.Op.call { callee := Go.Callee.value (Go.Operand.func 15), args := #[Go.Operand.tmp 78], argTypes := #[27] }, type := 24, pos := "law.go:57", after := #[{ on := 2, ground := Go.Ground.data }, { on := 1, ground := Go.Ground.chain }], guard := none }) rfl (fun K hK => ?_) AllReadyH.nil
      go_simp
      (go_at_call 15; refine (HFm.out _ (HL.out.2.1.keepF (And.left hHeld))).mono ?_; rintro e w2 ⟨rfl, q⟩)
      refine hK.out _ _ ?_ (fun hHeld' => ?_)
      · exact HS.out _ (Keep.trans (And.left hHeld) q)
      clear hK K hHeld
      have hHeld := hHeld'
      clear hHeld'
      try simp only [Act.put, List.setIfInBounds_toArray, List.set_cons_zero, List.set_cons_succ]
      refine wpAnyH_take (i := 4) (oi := { dst := some 80, op := Go.Op.binOp Go.BinOp.eql 24 (Go.Operand.tmp 77) (Go.Operand.tmp 79) 24, type := 4, pos := "law.go:57", after := #[{ on := 1, ground := Go.Ground.data }, { on := 3, ground := Go.Ground.data }], guard := none }) (v := (.bool true)) rfl (by kernel_rfl) (by kernel_rfl) (by kernel_rfl) (fun _ _ _ h => h) (Or.inl ⟨by rfl, ?_⟩) (by assumption) ?_
      · (intro w hSw; (try dsimp only at hSw); go_simp; first | done | with_reducible rfl | (simp [hes]; done))
      try simp only [Act.put, List.setIfInBounds_toArray, List.set_cons_zero, List.set_cons_succ]
      refine wpAnyH_take (i := 5) (oi := { dst := some 81, op := Go.Op.move (Go.Operand.tmp 80), type := 4, pos := "law.go:57", after := #[{ on := 4, ground := Go.Ground.data }, { on := 3, ground := Go.Ground.chain }], guard := none }) (v := ?_) rfl (by kernel_rfl) (by kernel_rfl) (by kernel_rfl) (fun _ _ _ h => h) (Or.inl ⟨by rfl, ?_⟩) (by assumption) ?_
      rotate_left 1
      · (intro w hSw; (try dsimp only at hSw); go_simp; first | done | with_reducible rfl)
      try simp only [Act.put, List.setIfInBounds_toArray, List.set_cons_zero, List.set_cons_succ]
      refine wpAnyH_take (i := 6) (oi := { dst := some 82, op := Go.Op.load 27 (Go.Operand.tmp 1), type := 27, pos := "law.go:57", after := #[{ on := 5, ground := Go.Ground.guard }], guard := some (5, true) }) (v := ?_) rfl (by kernel_rfl) (by kernel_rfl) (by kernel_rfl) (fun _ _ _ h => h) (Or.inl ⟨by rfl, ?_⟩) (by assumption) ?_
      rotate_left 1
      · (intro w hSw; (try dsimp only at hSw); go_simp; first | done | with_reducible rfl)
      try simp only [Act.put, List.setIfInBounds_toArray, List.set_cons_zero, List.set_cons_succ]
      refine wpAnyH_take (i := 8) (oi := { dst := some 84, op := Go.Op.load 27 (Go.Operand.tmp 3), type := 27, pos := "law.go:57", after := #[{ on := 5, ground := Go.Ground.guard }], guard := some (5, true) }) (v := ?_) rfl (by kernel_rfl) (by kernel_rfl) (by kernel_rfl) (fun _ _ _ h => h) (Or.inl ⟨by rfl, ?_⟩) (by assumption) ?_
      rotate_left 1
      · (intro w hSw; (try dsimp only at hSw); go_simp; first | done | with_reducible rfl)
      try simp only [Act.put, List.setIfInBounds_toArray, List.set_cons_zero, List.set_cons_succ]
      refine wpAnyH_ready (rs := [7]) (by kernel_rfl) (by simp) ?_
      refine AllReadyH.cons (o := { dst := some 83, op := Go.Op.call { callee := Go.Callee.value (Go.Operand.func 16), args := #[Go.Operand.tmp 82], argTypes := #[27] }, type := 4, pos := "law.go:57", after := #[{ on := 6, ground := Go.Ground.data }, { on := 5, ground := Go.Ground.chain }, { on := 5, ground := Go.Ground.guard }], guard := some (5, true) }) rfl (fun K hK => ?_) AllReadyH.nil
      go_simp
      (go_at_call 16; refine (HNt.out _ (HL.out.1.keepF (And.left hHeld))).mono ?_; rintro e w2 ⟨rfl, q⟩)
      refine hK.out _ _ ?_ (fun hHeld' => ?_)
      · exact HS.out _ (Keep.trans (And.left hHeld) q)
      clear hK K hHeld
      have hHeld := hHeld'
      clear hHeld'
      try simp only [Act.put, List.setIfInBounds_toArray, List.set_cons_zero, List.set_cons_succ]
      refine wpAnyH_ready (rs := [9]) (by kernel_rfl) (by simp) ?_
      refine AllReadyH.cons (o := { dst := some 85, op := Go.Op.call { callee := Go.Callee.value (Go.Operand.func 16), args := #[Go.Operand.tmp 84], argTypes := #[27] }, type := 4, pos := "law.go:57", after := #[{ on := 8, ground := Go.Ground.data }, { on := 7, ground := Go.Ground.chain }, { on := 5, ground := Go.Ground.guard }], guard := some (5, true) }) rfl (fun K hK => ?_) AllReadyH.nil
      go_simp
      (go_at_call 16; refine (HNm.out _ (HL.out.2.1.keepF (And.left hHeld))).mono ?_; rintro e w2 ⟨rfl, q⟩)
      refine hK.out _ _ ?_ (fun hHeld' => ?_)
      · exact HS.out _ (Keep.trans (And.left hHeld) q)
      clear hK K hHeld
      have hHeld := hHeld'
      clear hHeld'
      try simp only [Act.put, List.setIfInBounds_toArray, List.set_cons_zero, List.set_cons_succ]
      refine wpAnyH_take (i := 10) (oi := { dst := some 86, op := Go.Op.binOp Go.BinOp.eql 4 (Go.Operand.tmp 83) (Go.Operand.tmp 85) 4, type := 4, pos := "law.go:57", after := #[{ on := 7, ground := Go.Ground.data }, { on := 9, ground := Go.Ground.data }, { on := 5, ground := Go.Ground.guard }], guard := some (5, true) }) (v := (.bool true)) rfl (by kernel_rfl) (by kernel_rfl) (by kernel_rfl) (fun _ _ _ h => h) (Or.inl ⟨by rfl, ?_⟩) (by assumption) ?_
      · (intro w hSw; (try dsimp only at hSw); go_simp; first | done | with_reducible rfl | (simp; done))
      try simp only [Act.put, List.setIfInBounds_toArray, List.set_cons_zero, List.set_cons_succ]
      refine wpAnyH_take (i := 11) (oi := { dst := some 87, op := Go.Op.pick (Go.Operand.tmp 81) (Go.Operand.tmp 86) (Go.Operand.const (Go.Value.bool false)), type := 4, pos := "law.go:57", after := #[{ on := 5, ground := Go.Ground.data }, { on := 10, ground := Go.Ground.data }], guard := none }) (v := ?_) rfl (by kernel_rfl) (by kernel_rfl) (by kernel_rfl) (fun _ _ _ h => h) (Or.inl ⟨by rfl, ?_⟩) (by assumption) ?_
      rotate_left 1
      · (intro w hSw; (try dsimp only at hSw); go_simp; first | done | with_reducible rfl)
      try simp only [Act.put, List.setIfInBounds_toArray, List.set_cons_zero, List.set_cons_succ]
      refine wpAnyH_take (i := 12) (oi := { dst := some 2, op := Go.Op.assign (Go.Operand.tmp 87), type := 4, pos := "law.go:57", after := #[{ on := 11, ground := Go.Ground.data }, { on := 9, ground := Go.Ground.chain }, { on := 0, ground := Go.Ground.phase }, { on := 1, ground := Go.Ground.phase }, { on := 2, ground := Go.Ground.phase }, { on := 3, ground := Go.Ground.phase }, { on := 4, ground := Go.Ground.phase }, { on := 5, ground := Go.Ground.phase }, { on := 6, ground := Go.Ground.phase }, { on := 7, ground := Go.Ground.phase }, { on := 8, ground := Go.Ground.phase }, { on := 9, ground := Go.Ground.phase }, { on := 10, ground := Go.Ground.phase }, { on := 11, ground := Go.Ground.phase }], guard := none }) (v := ?_) rfl (by kernel_rfl) (by kernel_rfl) (by kernel_rfl) (fun _ _ _ h => h) (Or.inl ⟨by rfl, ?_⟩) (by assumption) ?_
      rotate_left 1
      · (intro w hSw; (try dsimp only at hSw); go_simp; first | done | with_reducible rfl)
      try simp only [Act.put, List.setIfInBounds_toArray, List.set_cons_zero, List.set_cons_succ]
      refine wpAnyH_done (by kernel_rfl) ?_ _
      refine NoPanic.normal ?_
      have HZ := Lib.hid (H8.out.1.trans (And.left hHeld))
      clear hHeld
      go_wp2_with fail
      go_ret
      exact ⟨rfl, HZ.out⟩
end Go.Proofs.Ytmohpjpodkbgkaa.P10
