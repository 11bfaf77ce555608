/- The code's reader (layer 7): whole (it recovers), and package regex's Parse. -/
import Derived.Test.YthcjfgfbeollpaaKG40
import Derived.Defers
import Derived.Recover
namespace Go.Proofs.Ythcjfgfbeollpaa.P07
open Go.RowKit Go.Proofs.Ythcjfgfbeollpaa.Base Go.Proofs.Ythcjfgfbeollpaa.IL Go.Proofs.Ythcjfgfbeollpaa.Bytes
open Go.Proofs.Ythcjfgfbeollpaa.Sets (ST)

/-- The deferred closure, where nothing panicked. -/
theorem catch_idle (p q r : Addr) (w : World) :
    CallsD Try.prog 103 #[.pointer (some p), .pointer (some q), .pointer (some r)] .returning w fun e u' w' => e = .returned (.tuple #[]) ∧ u' = .returning ∧ w' = w := by
  refine callsD_of_wpS Try.func103 rfl fun c₀ cs hu => ?_
  apply wpS_seq
  apply wpS_region
  simp [wpOpsS, go_sem, recoverD, hu, Try.ntmps103, Exit.thenS]
  refine wpS_of_wp ?_
  rw [show (#[Value.pointer (some p), Value.pointer (some q), Value.pointer (some r)] ++ (Array.replicate 11 undef).setIfInBounds 3 Value.nilIface : Array Value) = #[.pointer (some p), .pointer (some q), .pointer (some r), undef, undef, undef, .nilIface, undef, undef, undef, undef, undef, undef, undef] from rfl]
  go_wp2_with fail
  cases c₀
  simp_all [bodyPostS, results, Try.results103]

/-- .. where it gave up at a place: it is taken, and the three results are laid. -/
theorem catch_place (p q r : Nat) (x : Nat) (vs : Array Value) (z y : Value) (older : List PanicEntry) (w : World) (hp : At w p 27 vs) (hvs : vs.size = 8) (hq : At w q 3 #[z]) (hr : At w r 30 #[y]) (hpq : p ≠ q) (hpr : p ≠ r) (hqr : q ≠ r) :
    CallsD Try.prog 103 #[.pointer (some ⟨p, 0, none⟩), .pointer (some ⟨q, 0, none⟩), .pointer (some ⟨r, 0, none⟩)] (.panicking ({ v := .iface 136 (.int .i64 x), recovered := false } :: older)) w fun e u' w' =>
      e = .returned (.tuple #[]) ∧ u' = .panicking ({ v := .iface 136 (.int .i64 x), recovered := true } :: older) ∧ At w' p 27 nzeros ∧ At w' q 3 #[.int .i64 x] ∧ At w' r 30 #[.int .i64 6] ∧ Keep (fun i => i = p ∨ i = q ∨ i = r) w w' := by
  obtain ⟨y0, y1, y2, y3, y4, y5, y6, y7, rfl⟩ : ∃ y0 y1 y2 y3 y4 y5 y6 y7, vs = #[y0, y1, y2, y3, y4, y5, y6, y7] := by
    refine ⟨vs[0], vs[1], vs[2], vs[3], vs[4], vs[5], vs[6], vs[7], ?_⟩
    apply Array.ext
    · simp [hvs]
    · intro i h1 h2
      match i, h1 with
      | 0, _ => rfl
      | 1, _ => rfl
      | 2, _ => rfl
      | 3, _ => rfl
      | 4, _ => rfl
      | 5, _ => rfl
      | 6, _ => rfl
      | 7, _ => rfl
      | i + 8, h => omega
  have H := Lib.hid (And.intro hp (And.intro hq hr))
  obtain ⟨⟨k0, k1, k2, k3, k4, k5, k6, k7⟩, f0, f1, f2, f3, f4, f5, f6, f7⟩ := cells8 hp
  have kq := hq.cell (o := 0) rfl
  have fq := hq.frozen 0
  have kr := hr.cell (o := 0) rfl
  have fr := hr.frozen 0
  have hta : ∀ W : World, (Instr.typeAssert (.iface 136 (.int .i64 x)) 20 136 true).run Try.prog W = .ok (.tuple #[.int .i64 x, .bool true]) W := fun W => by
    kernel_rfl
  clear hp hq hr hvs
  refine callsD_of_wpS Try.func103 rfl fun c₀ cs hu => ?_
  apply wpS_seq
  apply wpS_region
  simp [wpOpsS, go_sem, recoverD, hu, Try.ntmps103, Exit.thenS]
  refine wpS_of_wp ?_
  rw [show (#[Value.pointer (some ⟨p, 0, none⟩), Value.pointer (some ⟨q, 0, none⟩), Value.pointer (some ⟨r, 0, none⟩)] ++ (Array.replicate 11 undef).setIfInBounds 3 (Value.iface 136 (.int .i64 x)) : Array Value) = #[.pointer (some ⟨p, 0, none⟩), .pointer (some ⟨q, 0, none⟩), .pointer (some ⟨r, 0, none⟩), undef, undef, undef, .iface 136 (.int .i64 x), undef, undef, undef, undef, undef, undef, undef] from rfl]
  go_wp2_with fail
  obtain ⟨hp, hq, hr⟩ := H.out
  refine ⟨rfl, _, rfl, .tuple #[], results_none rfl _ _ _, rfl, rfl, ?_, ?_, ?_, ?_⟩
  · exact ((set8 hp (.int .i64 0) (.int .u64 0) (.int .u64 0) (.int .u64 0) (.int .u64 0) (.int .i64 0) (.int .i64 0) (.slice none 0 0)).setOther (p := ⟨q, 0, none⟩) hpq _).setOther (p := ⟨r, 0, none⟩) hpr _
  · exact ((other8 hq (Ne.symm hpq) (.int .i64 0) (.int .u64 0) (.int .u64 0) (.int .u64 0) (.int .u64 0) (.int .i64 0) (.int .i64 0) (.slice none 0 0)).set 0 (.int .i64 x)).setOther (p := ⟨r, 0, none⟩) hqr _
  · exact ((other8 hr (Ne.symm hpr) (.int .i64 0) (.int .u64 0) (.int .u64 0) (.int .u64 0) (.int .u64 0) (.int .i64 0) (.int .i64 0) (.slice none 0 0)).setOther (p := ⟨q, 0, none⟩) (Ne.symm hqr) (.int .i64 x)).set 0 (.int .i64 6)
  · exact ((keep8 (Keep.refl (fun i => i = p ∨ i = q ∨ i = r) w) (b := p) (fun _ => .inl rfl) (.int .i64 0) (.int .u64 0) (.int .u64 0) (.int .u64 0) (.int .u64 0) (.int .i64 0) (.int .i64 0) (.slice none 0 0)).setCell (p := ⟨q, 0, none⟩) (fun _ => .inr (.inl rfl)) (.int .i64 x)).setCell (p := ⟨r, 0, none⟩) (fun _ => .inr (.inr rfl)) (.int .i64 6)

/-- What Parse hands back. -/
def ParsedR (w : World) (r : Nat ⊕ T) (e : Ending) (w' : World) : Prop := match r with
  | .inl p => e = .returned (.tuple #[.agg nzeros, .int .i64 p, .int .i64 6])
  | .inr t => ∃ v, e = .returned (.tuple #[v, .int .i64 0, .int .i64 0]) ∧ NodeV w' (fun k => w.heap.size ≤ k) v t

/-- The reader, and the three results. -/
structure Rw (w : World) (b : Nat) (l : List UInt8) (o : Array Value) (s : PS) (W : World) : Prop where
  rd : Rd W b l s
  out : At W w.heap.size 27 o
  at1 : At W (w.heap.size + 1) 3 #[.int .i64 0]
  er : At W (w.heap.size + 2) 30 #[.int .i64 0]
  keep : Keep (fun i => i = b) w W
  low : b < w.heap.size
theorem Rw.step {w : World} {b : Nat} {l : List UInt8} {o : Array Value} {s s' : PS} {W W' : World} (I : Rw w b l o s W) (h : Rd W' b l s') (q : Keep (fun i => i = b) W W') : Rw w b l o s' W' :=
  have hl := I.low
  ⟨h, I.out.keep q (by omega), I.at1.keep q (by omega), I.er.keep q (by omega), I.keep.trans q, hl⟩
theorem Rw.lost {w : World} {b : Nat} {l : List UInt8} {o : Array Value} {s : PS} {W W' : World} (I : Rw w b l o s W) (q : Keep (fun i => i = b) W W') : At W' w.heap.size 27 o ∧ At W' (w.heap.size + 1) 3 #[.int .i64 0] ∧ At W' (w.heap.size + 2) 30 #[.int .i64 0] ∧ Keep (fun i => i = b) w W' :=
  have hl := I.low
  ⟨I.out.keep q (by omega), I.at1.keep q (by omega), I.er.keep q (by omega), I.keep.trans q⟩
theorem Rw.start {w : World} {b : Nat} {l : List UInt8} {s : PS} (h : Rd w b l s) : Rw w b l nzeros s (((w.alloc (.cells nzeros 27)).alloc (.cells #[.int .i64 0] 3)).alloc (.cells #[.int .i64 0] 30)) := by
  have a1 := At.new (w.alloc (.cells nzeros 27)) #[.int .i64 0] 3
  rw [show (w.alloc (.cells nzeros 27)).heap.size = w.heap.size + 1 from by simp] at a1
  have a2 := At.new ((w.alloc (.cells nzeros 27)).alloc (.cells #[.int .i64 0] 3)) #[.int .i64 0] 30
  rw [show ((w.alloc (.cells nzeros 27)).alloc (.cells #[.int .i64 0] 3)).heap.size = w.heap.size + 2 from by simp] at a2
  exact ⟨((h.alloc _).alloc _).alloc _, ((At.new w _ _).alloc _).alloc _, a1.alloc _, a2, (((Keep.refl _ w).alloc _).alloc _).alloc _, At.lt h⟩

set_option maxRecDepth 100000 in
set_option maxHeartbeats 8000000 in
theorem rwhole_any (F b : Nat) (l : List UInt8) (hF : l.length + 2 ≤ F) (hl : l.length ≤ 100000000) (w : World) (h : Rd w b l s0) :
    Calls Try.prog 92 #[.pointer (some ⟨b, 0, none⟩)] w fun e w' => ParsedR w (parse F l) e w' ∧ Keep (fun i => i = b) w w' := by
  have hmf : ∀ (fn : Fn) (first cap : Array Value) (w : World), (Instr.makeFunc fn first cap).run Try.prog w = .ok (.func fn first cap) w := fun _ _ _ _ => rfl
  obtain ⟨⟨t, RS⟩, hR⟩ : ∃ R, altD F 13 l s0 = R := ⟨_, rfl⟩
  have hq : parse F l = ends l (t, RS) := by unfold parse; rw [hR]
  rw [hq]
  obtain ⟨ans, hans⟩ : ∃ r, ends l (t, RS) = r := ⟨_, rfl⟩
  rw [hans]
  have halt := fun W h => raltD_any F b l hF hl 13 0 (by decide) (by decide) s0 W rfl (Nat.zero_le _) rfl h
  have hpos := fun h => (altD_tame F 13).pos_le (l := l) (s := s0) rfl (Nat.zero_le _) h
  rw [hR] at halt hpos
  dsimp only at hpos
  have W0 := Lib.hid (Rw.start h)
  have HC := Lib.hid (And.intro halt (And.intro hpos hans))
  clear hq hans hR halt hpos h
  go_enter_defers Try.func92, Try.ntmps92
  go_wp2_with fail
  generalize (((w.alloc (.cells nzeros 27)).alloc (.cells #[.int .i64 0] 3)).alloc (.cells #[.int .i64 0] 30)) = V at *
  refine (HC.out.1 V W0.out.rd).mono ?_
  intro e w1 hO
  rcases hO.split with ⟨hb1, v, rfl, ⟨a', c', hv, hle, hLie⟩, h1, q1⟩ | ⟨x, hb1, rfl, q1⟩
  · dsimp only at hv hb1 hle hLie
    subst hv
    have hlow := W0.out.er.lt
    have I1 := W0.out.step h1 q1
    have HL1 := Lib.hid (And.intro (hLie.mono (ok' := fun k => w.heap.size + 2 < k) (fun k hk => by omega)) hle)
    obtain ⟨⟨k0, k1, k2, k3, k4, k5, k6, k7⟩, f0, f1, f2, f3, f4, f5, f6, f7⟩ := cells8 I1.out
    have hlt0 := I1.out.lt
    have J1 := Lib.hid I1
    clear h1 q1 hO hLie hle I1 hlow
    go_upto_region 3 with fail
    change Code.wp _ _ _ _ (put8 w1 w.heap.size (.int .i64 t.kind) (.int .u64 t.set.x0) (.int .u64 t.set.x1) (.int .u64 t.set.x2) (.int .u64 t.set.x3) (.int .i64 t.mn) (.int .i64 t.mx) (.slice a' t.subs.length c'))
    have J2 := Lib.hid (And.intro (show Rw w b l (ncells t a' c') RS (put8 w1 w.heap.size (.int .i64 t.kind) (.int .u64 t.set.x0) (.int .u64 t.set.x1) (.int .u64 t.set.x2) (.int .u64 t.set.x3) (.int .i64 t.mn) (.int .i64 t.mx) (.slice a' t.subs.length c')) from by
      have I := J1.out
      have hl := I.low
      exact ⟨other8 (show At _ b _ _ from I.rd) (by omega) (.int .i64 t.kind) (.int .u64 t.set.x0) (.int .u64 t.set.x1) (.int .u64 t.set.x2) (.int .u64 t.set.x3) (.int .i64 t.mn) (.int .i64 t.mx) (.slice a' t.subs.length c'), set8 I.out (.int .i64 t.kind) (.int .u64 t.set.x0) (.int .u64 t.set.x1) (.int .u64 t.set.x2) (.int .u64 t.set.x3) (.int .i64 t.mn) (.int .i64 t.mx) (.slice a' t.subs.length c'), other8 I.at1 (by omega) (.int .i64 t.kind) (.int .u64 t.set.x0) (.int .u64 t.set.x1) (.int .u64 t.set.x2) (.int .u64 t.set.x3) (.int .i64 t.mn) (.int .i64 t.mx) (.slice a' t.subs.length c'), other8 I.er (by omega) (.int .i64 t.kind) (.int .u64 t.set.x0) (.int .u64 t.set.x1) (.int .u64 t.set.x2) (.int .u64 t.set.x3) (.int .i64 t.mn) (.int .i64 t.mx) (.slice a' t.subs.length c'), keep8 I.keep (b := w.heap.size) (fun h => absurd h (Nat.lt_irrefl _)) (.int .i64 t.kind) (.int .u64 t.set.x0) (.int .u64 t.set.x1) (.int .u64 t.set.x2) (.int .u64 t.set.x3) (.int .i64 t.mn) (.int .i64 t.mx) (.slice a' t.subs.length c'), hl⟩) (HL1.out.1.keep (keep8 (Keep.refl (fun i => i = w.heap.size) w1) (b := w.heap.size) (fun _ => rfl) (.int .i64 t.kind) (.int .u64 t.set.x0) (.int .u64 t.set.x1) (.int .u64 t.set.x2) (.int .u64 t.set.x3) (.int .i64 t.mn) (.int .i64 t.mx) (.slice a' t.subs.length c')) (fun k hk e => by omega)))
    clear k0 k1 k2 k3 k4 k5 k6 k7 f0 f1 f2 f3 f4 f5 f6 f7 hlt0 J1
    generalize (put8 w1 w.heap.size (.int .i64 t.kind) (.int .u64 t.set.x0) (.int .u64 t.set.x1) (.int .u64 t.set.x2) (.int .u64 t.set.x3) (.int .i64 t.mn) (.int .i64 t.mx) (.slice a' t.subs.length c')) = W2 at *
    have c0 : W2.cell? ⟨b, 0, none⟩ = some (str l) := At.cell J2.out.1.rd (o := 0) rfl
    have c1 : W2.cell? ⟨b, 1, none⟩ = some (.int .i64 RS.pos) := At.cell J2.out.1.rd (o := 1) rfl
    have hs := size_str l
    obtain ⟨B, hB⟩ : ∃ B : ByteArray, (⟨l.toArray⟩ : ByteArray) = B := ⟨_, rfl⟩
    unfold str at c0
    rw [hB] at hs c0
    clear hB
    by_cases hlt : RS.pos < l.length
    · have hlti : (RS.pos : Int) < l.length := by omega
      have HA := Lib.hid (show ans = .inl RS.pos from by rw [← HC.out.2.2]; unfold ends; dsimp only; rw [hb1]; dsimp only; rw [if_pos hlt])
      clear hb1
      go_quiet (fail)
      go_wp2_with fail
      refine leaves_cons (f := 103) (args := #[.pointer (some ⟨w.heap.size, 0, none⟩), .pointer (some ⟨w.heap.size + 1, 0, none⟩), .pointer (some ⟨w.heap.size + 2, 0, none⟩)]) (by simp) (by simp [go_sem]) ?_
      refine (catch_place w.heap.size (w.heap.size + 1) (w.heap.size + 2) RS.pos (ncells t a' c') _ _ [] (W2.drewN nq) J2.out.1.out rfl J2.out.1.at1 J2.out.1.er (by omega) (by omega) (by omega)).mono ?_
      rintro e u' w2 ⟨rfl, rfl, p1, p2, p3, q2⟩
      obtain ⟨⟨e0, e1, e2, e3, e4, e5, e6, e7⟩, -⟩ := cells8 p1
      have g0 := p2.cell (o := 0) rfl
      have g1 := p3.cell (o := 0) rfl
      refine ⟨.tuple #[.agg nzeros, .int .i64 RS.pos, .int .i64 6], by simp [results, Try.results92, go_sem, e0, e1, e2, e3, e4, e5, e6, e7, g0, g1], ?_, (J2.out.1.keep.drewN _).next q2 (fun i hi hl => by rcases hi with rfl | rfl | rfl <;> omega)⟩
      rw [HA.out]
      rfl
    · have hlti : ¬ (RS.pos : Int) < l.length := by omega
      have HA := Lib.hid (show ans = .inr t from by rw [← HC.out.2.2]; unfold ends; dsimp only; rw [hb1]; dsimp only; rw [if_neg hlt])
      clear hb1
      go_quiet (fail)
      go_upto_region 5 with fail
      have J3 := Lib.hid (And.intro (show Rw w b l (ncells t a' c') RS (W2.drewN nq) from ⟨J2.out.1.rd, J2.out.1.out, J2.out.1.at1, J2.out.1.er, J2.out.1.keep.drewN nq, J2.out.1.low⟩) (J2.out.2.keepF ((Keep.refl (fun _ => False) W2).drewN nq)))
      clear c0 c1 J2
      generalize W2.drewN nq = W3 at *
      obtain ⟨⟨k0, k1, k2, k3, k4, k5, k6, k7⟩, f0, f1, f2, f3, f4, f5, f6, f7⟩ := cells8 J3.out.1.out
      have ka := J3.out.1.at1.cell (o := 0) rfl
      have fa := J3.out.1.at1.frozen 0
      have kr := J3.out.1.er.cell (o := 0) rfl
      have fr := J3.out.1.er.frozen 0
      go_wp2_with fail
      refine leaves_cons (f := 103) (args := #[.pointer (some ⟨w.heap.size, 0, none⟩), .pointer (some ⟨w.heap.size + 1, 0, none⟩), .pointer (some ⟨w.heap.size + 2, 0, none⟩)]) (by simp) (by simp [go_sem]) ?_
      refine (catch_idle ⟨w.heap.size, 0, none⟩ ⟨w.heap.size + 1, 0, none⟩ ⟨w.heap.size + 2, 0, none⟩ _).mono ?_
      rintro e u' w2 ⟨rfl, rfl, rfl⟩
      have I := J3.out.1
      have hl := I.low
      have p1 := ((set8 I.out (.int .i64 t.kind) (.int .u64 t.set.x0) (.int .u64 t.set.x1) (.int .u64 t.set.x2) (.int .u64 t.set.x3) (.int .i64 t.mn) (.int .i64 t.mx) (.slice a' t.subs.length c')).setOther (p := ⟨w.heap.size + 1, 0, none⟩) (by simp) (.int .i64 0)).setOther (p := ⟨w.heap.size + 2, 0, none⟩) (by simp) (.int .i64 0)
      have p2 := ((other8 (b := w.heap.size) I.at1 (by omega) (.int .i64 t.kind) (.int .u64 t.set.x0) (.int .u64 t.set.x1) (.int .u64 t.set.x2) (.int .u64 t.set.x3) (.int .i64 t.mn) (.int .i64 t.mx) (.slice a' t.subs.length c')).set 0 (.int .i64 0)).setOther (p := ⟨w.heap.size + 2, 0, none⟩) (by simp) (.int .i64 0)
      have p3 := ((other8 (b := w.heap.size) I.er (by omega) (.int .i64 t.kind) (.int .u64 t.set.x0) (.int .u64 t.set.x1) (.int .u64 t.set.x2) (.int .u64 t.set.x3) (.int .i64 t.mn) (.int .i64 t.mx) (.slice a' t.subs.length c')).setOther (p := ⟨w.heap.size + 1, 0, none⟩) (by simp) (.int .i64 0)).set 0 (.int .i64 0)
      have q := ((keep8 I.keep (b := w.heap.size) (fun h => absurd h (Nat.lt_irrefl _)) (.int .i64 t.kind) (.int .u64 t.set.x0) (.int .u64 t.set.x1) (.int .u64 t.set.x2) (.int .u64 t.set.x3) (.int .i64 t.mn) (.int .i64 t.mx) (.slice a' t.subs.length c')).setCell (p := ⟨w.heap.size + 1, 0, none⟩) (fun h => absurd h (by simp)) (.int .i64 0)).setCell (p := ⟨w.heap.size + 2, 0, none⟩) (fun h => absurd h (by simp)) (.int .i64 0)
      have hL := (J3.out.2.keep (((keep8 (Keep.refl (fun i => i = w.heap.size ∨ i = w.heap.size + 1 ∨ i = w.heap.size + 2) W3) (b := w.heap.size) (fun _ => .inl rfl) (.int .i64 t.kind) (.int .u64 t.set.x0) (.int .u64 t.set.x1) (.int .u64 t.set.x2) (.int .u64 t.set.x3) (.int .i64 t.mn) (.int .i64 t.mx) (.slice a' t.subs.length c')).setCell (p := ⟨w.heap.size + 1, 0, none⟩) (fun _ => .inr (.inl rfl)) (.int .i64 0)).setCell (p := ⟨w.heap.size + 2, 0, none⟩) (fun _ => .inr (.inr rfl)) (.int .i64 0)) (fun k hk e => by omega)).mono (ok' := fun k => w.heap.size ≤ k) (fun k hk => by omega)
      change Leaves _ _ _ _ _ _ (((put8 W3 w.heap.size (.int .i64 t.kind) (.int .u64 t.set.x0) (.int .u64 t.set.x1) (.int .u64 t.set.x2) (.int .u64 t.set.x3) (.int .i64 t.mn) (.int .i64 t.mx) (.slice a' t.subs.length c')).setCell ⟨w.heap.size + 1, 0, none⟩ (.int .i64 0)).setCell ⟨w.heap.size + 2, 0, none⟩ (.int .i64 0))
      generalize (((put8 W3 w.heap.size (.int .i64 t.kind) (.int .u64 t.set.x0) (.int .u64 t.set.x1) (.int .u64 t.set.x2) (.int .u64 t.set.x3) (.int .i64 t.mn) (.int .i64 t.mx) (.slice a' t.subs.length c')).setCell ⟨w.heap.size + 1, 0, none⟩ (.int .i64 0)).setCell ⟨w.heap.size + 2, 0, none⟩ (.int .i64 0)) = W4 at p1 p2 p3 q hL ⊢
      obtain ⟨⟨e0, e1, e2, e3, e4, e5, e6, e7⟩, -⟩ := cells8 p1
      have g0 := p2.cell (o := 0) rfl
      have g1 := p3.cell (o := 0) rfl
      refine ⟨.tuple #[nodeV t a' c', .int .i64 0, .int .i64 0], by simp [results, Try.results92, go_sem, e0, e1, e2, e3, e4, e5, e6, e7, g0, g1], ?_, q⟩
      rw [HA.out]
      exact ⟨_, rfl, a', c', rfl, HL1.out.2, hL⟩
  · obtain ⟨o1, o2, o3, o4⟩ := W0.out.lost q1
    have HO := Lib.hid (And.intro o1 (And.intro o2 (And.intro o3 (And.intro o4 (show ans = .inl x from by rw [← HC.out.2.2]; unfold ends; dsimp only; rw [hb1])))))
    clear o1 o2 o3 o4 q1 hO hb1
    go_wp2_with fail
    refine leaves_cons (f := 103) (args := #[.pointer (some ⟨w.heap.size, 0, none⟩), .pointer (some ⟨w.heap.size + 1, 0, none⟩), .pointer (some ⟨w.heap.size + 2, 0, none⟩)]) (by simp) (by simp [go_sem]) ?_
    refine (catch_place w.heap.size (w.heap.size + 1) (w.heap.size + 2) x nzeros _ _ [] w1 HO.out.1 rfl HO.out.2.1 HO.out.2.2.1 (by omega) (by omega) (by omega)).mono ?_
    rintro e u' w2 ⟨rfl, rfl, p1, p2, p3, q2⟩
    have HP := Lib.hid (And.intro p1 (And.intro p2 p3))
    obtain ⟨⟨e0, e1, e2, e3, e4, e5, e6, e7⟩, -⟩ := cells8 p1
    have g0 := p2.cell (o := 0) rfl
    have g1 := p3.cell (o := 0) rfl
    refine ⟨.tuple #[.agg nzeros, .int .i64 x, .int .i64 6], by simp [results, Try.results92, go_sem, e0, e1, e2, e3, e4, e5, e6, e7, g0, g1], ?_, HO.out.2.2.2.1.next q2 (fun i hi hl => by rcases hi with rfl | rfl | rfl <;> omega)⟩
    rw [HO.out.2.2.2.2]
    rfl

set_option maxRecDepth 100000 in
set_option maxHeartbeats 8000000 in
theorem regex_any (F : Nat) (l : List UInt8) (hF : l.length + 2 ≤ F) (hl : l.length ≤ 100000000) (w : World) :
    Calls Try.prog 74 #[str l] w fun e w' => ParsedR w (parse F l) e w' ∧ Keep (fun _ => False) w w' := by
  obtain ⟨ans, hans⟩ : ∃ r, parse F l = r := ⟨_, rfl⟩
  have hw := fun b W h => rwhole_any F b l hF hl W h
  rw [hans] at hw ⊢
  have hstr : str l = .string ⟨l.toArray⟩ := rfl
  unfold str
  obtain ⟨B, hB⟩ : ∃ B : ByteArray, (⟨l.toArray⟩ : ByteArray) = B := ⟨_, rfl⟩
  rw [hB] at hstr ⊢
  have a1 := At.new (w.alloc (.cells nzeros 27)) #[.string B, .int .i64 0, .int .i64 0] 124
  rw [show (w.alloc (.cells nzeros 27)).heap.size = w.heap.size + 1 from by simp] at a1
  have W0 := Lib.hid (And.intro (show Rd _ (w.heap.size + 1) l s0 from by unfold Rd rdcells; rw [hstr]; exact a1) (And.intro ((At.new w nzeros 27).alloc (.cells #[.string B, .int .i64 0, .int .i64 0] 124)) (((Keep.refl (fun _ => False) w).alloc (.cells nzeros 27)).alloc (.cells #[.string B, .int .i64 0, .int .i64 0] 124))))
  have HW := Lib.hid hw
  clear hans hw hstr hB a1
  go_enter Try.func74, Try.ntmps74
  go_upto_region 2 with fail
  generalize ((w.alloc (.cells nzeros 27)).alloc (.cells #[.string B, .int .i64 0, .int .i64 0] 124)) = V at *
  have hlt := W0.out.1.lt
  go_wp2_with fail
  refine (HW.out (w.heap.size + 1) V W0.out.1).mono ?_
  rintro e w1 ⟨hP, q1⟩
  have o1 := W0.out.2.1.keep q1 (by omega)
  have k1 := W0.out.2.2.next q1 (fun i hi hl => by omega)
  obtain ⟨⟨k0, k1', k2, k3, k4, k5, k6, k7⟩, f0, f1, f2, f3, f4, f5, f6, f7⟩ := cells8 o1
  have hlt0 := o1.lt
  cases ans with
  | inl p =>
    have hP' : e = .returned (.tuple #[.agg nzeros, .int .i64 p, .int .i64 6]) := hP
    subst hP'
    have H := Lib.hid (And.intro o1 k1)
    clear hP q1 o1 k1 hlt
    go_wp2_with fail
    change bodyPost _ _ _ _ _ (put8 w1 w.heap.size (.int .i64 0) (.int .u64 0) (.int .u64 0) (.int .u64 0) (.int .u64 0) (.int .i64 0) (.int .i64 0) (.slice none 0 0))
    have a := set8 H.out.1 (.int .i64 0) (.int .u64 0) (.int .u64 0) (.int .u64 0) (.int .u64 0) (.int .i64 0) (.int .i64 0) (.slice none 0 0)
    have q := keep8 H.out.2 (b := w.heap.size) (fun h => absurd h (Nat.lt_irrefl _)) (.int .i64 0) (.int .u64 0) (.int .u64 0) (.int .u64 0) (.int .u64 0) (.int .i64 0) (.int .i64 0) (.slice none 0 0)
    generalize (put8 w1 w.heap.size (.int .i64 0) (.int .u64 0) (.int .u64 0) (.int .u64 0) (.int .u64 0) (.int .i64 0) (.int .i64 0) (.slice none 0 0)) = W9 at a q ⊢
    obtain ⟨⟨e0, e1, e2, e3, e4, e5, e6, e7⟩, -⟩ := cells8 a
    exact bodyPost_ret (v := .tuple #[.agg nzeros, .int .i64 p, .int .i64 6]) (by simp [results, Try.results74, go_sem, e0, e1, e2, e3, e4, e5, e6, e7]) rfl ⟨rfl, q⟩
  | inr t =>
    obtain ⟨v, hv, a', c', rfl, hle, hLie⟩ := hP
    subst hv
    have H := Lib.hid (And.intro o1 (And.intro k1 (And.intro hle (hLie.mono (ok' := fun k => w.heap.size < k) (fun k hk => by omega)))))
    clear q1 o1 k1 hlt hle hLie
    go_wp2_with fail
    change bodyPost _ _ _ _ _ (put8 w1 w.heap.size (.int .i64 t.kind) (.int .u64 t.set.x0) (.int .u64 t.set.x1) (.int .u64 t.set.x2) (.int .u64 t.set.x3) (.int .i64 t.mn) (.int .i64 t.mx) (.slice a' t.subs.length c'))
    have a := set8 H.out.1 (.int .i64 t.kind) (.int .u64 t.set.x0) (.int .u64 t.set.x1) (.int .u64 t.set.x2) (.int .u64 t.set.x3) (.int .i64 t.mn) (.int .i64 t.mx) (.slice a' t.subs.length c')
    have q := keep8 H.out.2.1 (b := w.heap.size) (fun h => absurd h (Nat.lt_irrefl _)) (.int .i64 t.kind) (.int .u64 t.set.x0) (.int .u64 t.set.x1) (.int .u64 t.set.x2) (.int .u64 t.set.x3) (.int .i64 t.mn) (.int .i64 t.mx) (.slice a' t.subs.length c')
    have hL := (H.out.2.2.2.keep (keep8 (Keep.refl (fun i => i = w.heap.size) w1) (b := w.heap.size) (fun _ => rfl) (.int .i64 t.kind) (.int .u64 t.set.x0) (.int .u64 t.set.x1) (.int .u64 t.set.x2) (.int .u64 t.set.x3) (.int .i64 t.mn) (.int .i64 t.mx) (.slice a' t.subs.length c')) (fun k hk e => by omega)).mono (ok' := fun k => w.heap.size ≤ k) (fun k hk => by omega)
    generalize (put8 w1 w.heap.size (.int .i64 t.kind) (.int .u64 t.set.x0) (.int .u64 t.set.x1) (.int .u64 t.set.x2) (.int .u64 t.set.x3) (.int .i64 t.mn) (.int .i64 t.mx) (.slice a' t.subs.length c')) = W9 at a q hL ⊢
    obtain ⟨⟨e0, e1, e2, e3, e4, e5, e6, e7⟩, -⟩ := cells8 a
    exact bodyPost_ret (v := .tuple #[nodeV t a' c', .int .i64 0, .int .i64 0]) (by simp [results, Try.results74, go_sem, e0, e1, e2, e3, e4, e5, e6, e7]) rfl ⟨⟨_, rfl, a', c', rfl, H.out.2.2.1, hL⟩, q⟩
end Go.Proofs.Ythcjfgfbeollpaa.P07
