/- Same of two expressions (layer 7): the document's own, by structure. -/
import Derived.Test.YthcjfgfbeollpaaKG15
import Derived.Laws.StructEq
import Derived.Laws.Tables
import Derived.Deep.RegionHeld3
namespace Go.Proofs.Ythcjfgfbeollpaa.Bytes
open Go.RowKit Go.Proofs.Ythcjfgfbeollpaa.Base Go.Proofs.Ythcjfgfbeollpaa.Sets

theorem eq_set4 (a0 a1 a2 a3 b0 b1 b2 b3 : Int) (w : World) : (Op.equalIn 10000 24 (.agg #[.int .u64 a0, .int .u64 a1, .int .u64 a2, .int .u64 a3]) (.agg #[.int .u64 b0, .int .u64 b1, .int .u64 b2, .int .u64 b3])).run Try.prog w = .ok (a0 == b0 && (a1 == b1 && (a2 == b2 && a3 == b3))) w := by
  have u3 := Try.underlying22
  have a3' := Try.isAgg22
  have z3 := Try.sizeOf22
  rw [show (10000 : Nat) = 9999 + 1 from rfl, Op.equalIn]
  simp only [Sem.run_bind, run_underlying Try.underlying24, Result.andThen_ok]
  simp only [Std.Legacy.Range.forIn_eq_forIn_range', Std.Legacy.Range.size, Nat.sub_zero, Nat.add_sub_cancel, Nat.div_one, List.range'_succ, List.range'_zero, List.forIn_cons, List.forIn_nil]
  go_simp
  by_cases h1 : a0 = b0 <;> by_cases h2 : a1 = b1 <;> by_cases h3 : a2 = b2 <;> by_cases h4 : a3 = b3 <;> simp [h1, h2, h3, h4]

/-- Are two sets one? -/
def eqB (s t : ST) : Bool := (s.x0 : Int) == t.x0 && ((s.x1 : Int) == t.x1 && ((s.x2 : Int) == t.x2 && (s.x3 : Int) == t.x3))

theorem eqB_iff {s t : ST} : eqB s t = true ↔ s = t := by
  obtain ⟨a0, a1, a2, a3⟩ := s
  obtain ⟨b0, b1, b2, b3⟩ := t
  unfold eqB
  simp only [Bool.and_eq_true, beq_iff_eq, ST.mk.injEq]
  omega

theorem eqB_refl (s : ST) : eqB s s = true := eqB_iff.2 rfl
theorem eqB_ne {s t : ST} (h : s ≠ t) : eqB s t = false := by
  cases e : eqB s t
  · rfl
  · exact absurd (eqB_iff.1 e) h

theorem eq_set (s t : ST) (w : World) : (Op.equalIn 10000 24 (val s) (val t)).run Try.prog w = .ok (eqB s t) w := eq_set4 _ _ _ _ _ _ _ _ w
theorem eq_yes {s t : ST} (h : s = t) (w : World) : (Op.equalIn 10000 24 (val s) (val t)).run Try.prog w = .ok true w := by
  rw [eq_set, eqB_iff.2 h]
theorem eq_no {s t : ST} (h : s ≠ t) (w : World) : (Op.equalIn 10000 24 (val s) (val t)).run Try.prog w = .ok false w := by
  rw [eq_set, eqB_ne h]
end Go.Proofs.Ythcjfgfbeollpaa.Bytes
namespace Go.Proofs.Ythcjfgfbeollpaa.P07
open Go.RowKit Go.Proofs.Ythcjfgfbeollpaa.Base Go.Proofs.Ythcjfgfbeollpaa.IL Go.Proofs.Ythcjfgfbeollpaa.Bytes
open Go.Proofs.Ythcjfgfbeollpaa.Sets (ST)

theorem T.ext {a b : T} (h1 : a.kind = b.kind) (h2 : a.set = b.set) (h3 : a.mn = b.mn) (h4 : a.mx = b.mx) (h5 : a.subs = b.subs) : a = b := by
  cases a
  cases b
  unfold T.kind T.set T.mn T.mx T.subs at *
  dsimp only at *
  subst h1 h2 h3 h4 h5
  rfl
theorem sub_less {a t : T} {i : Nat} (h : a.subs[i]? = some t) : SizeOf.sizeOf t < SizeOf.sizeOf a := by
  cases a with
  | nd k s m x l =>
    have h1 := List.sizeOf_lt_of_mem (List.mem_of_getElem? h)
    have e : (T.nd k s m x l).subs = l := rfl
    rw [e] at h1
    simp
    omega

/-- The cells of a node, one by one. -/
theorem ncell {w : World} {bl o : Nat} {t : T} {a : Option Addr} {c : Nat} (h : ∀ j v, (ncells t a c)[j]? = some v → w.cell? ⟨bl, o + j, none⟩ = some v) :
    w.cell? ⟨bl, o, none⟩ = some (.int .i64 t.kind) ∧ w.cell? ⟨bl, o + 1, none⟩ = some (.int .u64 t.set.x0) ∧ w.cell? ⟨bl, o + 2, none⟩ = some (.int .u64 t.set.x1) ∧ w.cell? ⟨bl, o + 3, none⟩ = some (.int .u64 t.set.x2) ∧ w.cell? ⟨bl, o + 4, none⟩ = some (.int .u64 t.set.x3) ∧ w.cell? ⟨bl, o + 5, none⟩ = some (.int .i64 t.mn) ∧ w.cell? ⟨bl, o + 6, none⟩ = some (.int .i64 t.mx) ∧ w.cell? ⟨bl, o + 7, none⟩ = some (.slice a t.subs.length c) :=
  ⟨h 0 _ rfl, h 1 _ rfl, h 2 _ rfl, h 3 _ rfl, h 4 _ rfl, h 5 _ rfl, h 6 _ rfl, h 7 _ rfl⟩

/-- What Same answers of a and b. -/
def IsSame (a b : T) (w : World) (e : Ending) (w' : World) : Prop := ∃ v : Bool, e = .returned (.bool v) ∧ (v = true ↔ a = b) ∧ Keep (fun _ => False) w w'

set_option maxRecDepth 100000 in
set_option maxHeartbeats 4000000 in
theorem same_step (n : Nat) (ih : ∀ (a b : T), SizeOf.sizeOf a < n → ∀ (aa : Option Addr) (ac : Nat) (ba : Option Addr) (bc : Nat) (w : World), Lie w (fun _ => True) aa a.subs → Lie w (fun _ => True) ba b.subs → Calls Try.prog 17 #[nodeV a aa ac, nodeV b ba bc] w (IsSame a b w))
    (a b : T) (hn : SizeOf.sizeOf a < n + 1) (aa : Option Addr) (ac : Nat) (ba : Option Addr) (bc : Nat) (w : World) (ha : Lie w (fun _ => True) aa a.subs) (hb : Lie w (fun _ => True) ba b.subs) :
    Calls Try.prog 17 #[nodeV a aa ac, nodeV b ba bc] w (IsSame a b w) := by
  have hla := ha.len
  have hlb := hb.len
  have HA := Lib.hid (And.intro ha hb)
  clear ha hb
  have a0 := (At.new w (ncells a aa ac) 27).alloc (.cells (ncells b ba bc) 27)
  have a1 := At.new (w.alloc (.cells (ncells a aa ac) 27)) (ncells b ba bc) 27
  have q := ((Keep.refl (fun _ => False) w).alloc (.cells (ncells a aa ac) 27)).alloc (.cells (ncells b ba bc) 27)
  rw [show (w.alloc (.cells (ncells a aa ac) 27)).heap.size = w.heap.size + 1 from by simp] at a1
  have H0 := Lib.hid (And.intro a0 (And.intro a1 q))
  clear a0 a1 q
  by_cases hk : a.kind = b.kind
  case neg =>
    have ek : (a.kind != b.kind) = true := by simpa using hk
    have HK := Lib.hid hk
    clear hk
    go_enter Try.func17, Try.ntmps17
    go_wp2_with fail
    go_ret
    exact ⟨false, rfl, ⟨fun h => (by cases h), fun h => absurd (by rw [h]) HK.out⟩, H0.out.2.2⟩
  have ek : (a.kind != b.kind) = false := by simpa using hk
  by_cases hs : a.set = b.set
  case neg =>
    have es := fun W => eq_no hs W
    have HK := Lib.hid hs
    clear hs hk
    go_enter Try.func17, Try.ntmps17
    go_wp2_with fail
    go_ret
    exact ⟨false, rfl, ⟨fun h => (by cases h), fun h => absurd (by rw [h]) HK.out⟩, H0.out.2.2⟩
  have es := fun W => eq_yes hs W
  by_cases hm : a.mn = b.mn
  case neg =>
    have em : (a.mn != b.mn) = true := by simpa using hm
    have HK := Lib.hid hm
    clear hm hs hk
    go_enter Try.func17, Try.ntmps17
    go_wp2_with fail
    go_ret
    exact ⟨false, rfl, ⟨fun h => (by cases h), fun h => absurd (by rw [h]) HK.out⟩, H0.out.2.2⟩
  have em : (a.mn != b.mn) = false := by simpa using hm
  by_cases hx : a.mx = b.mx
  case neg =>
    have ex : (a.mx != b.mx) = true := by simpa using hx
    have HK := Lib.hid hx
    clear hx hm hs hk
    go_enter Try.func17, Try.ntmps17
    go_wp2_with fail
    go_ret
    exact ⟨false, rfl, ⟨fun h => (by cases h), fun h => absurd (by rw [h]) HK.out⟩, H0.out.2.2⟩
  have ex : (a.mx != b.mx) = false := by simpa using hx
  by_cases hl : a.subs.length = b.subs.length
  case neg =>
    have el : ((a.subs.length : Int) != b.subs.length) = true := by simp; omega
    have HK := Lib.hid hl
    clear hl hx hm hs hk
    go_enter Try.func17, Try.ntmps17
    go_wp2_with fail
    go_ret
    exact ⟨false, rfl, ⟨fun h => (by cases h), fun h => absurd (by rw [h]) HK.out⟩, H0.out.2.2⟩
  have el : ((a.subs.length : Int) != b.subs.length) = false := by simp; omega
  have HE := Lib.hid (And.intro hk (And.intro hs (And.intro hm (And.intro hx hl))))
  have HI := Lib.hid ih
  clear hl hx hm hs hk ih
  go_enter Try.func17, Try.ntmps17
  go_wp2_with fail
  generalize ((w.alloc (.cells (ncells a aa ac) 27)).alloc (.cells (ncells b ba bc) 27)) = W at *
  clear ek es em ex el
  go_loopg [5] a.subs.length (fun gg i wr => ∃ k : Nat, i = .int .i64 k ∧ k + gg = a.subs.length ∧ (∀ j, j < k → a.subs[j]? = b.subs[j]?) ∧ Keep (fun _ => False) W wr)
  case atStart => exact ⟨0, rfl, by omega, fun j hj => absurd hj (Nat.not_lt_zero _), Keep.refl _ _⟩
  case round =>
    obtain ⟨k, rfl, hk, hE, hq⟩ := hrel
    have q0 := (H0.out.2.2).trans hq
    have A0 := H0.out.1.keep hq (fun h => h)
    have A1 := H0.out.2.1.keep hq (fun h => h)
    have c7 : wr.cell? ⟨w.heap.size, 7, none⟩ = some (.slice aa a.subs.length ac) := A0.cell (o := 7) rfl
    have d7 : wr.cell? ⟨w.heap.size + 1, 7, none⟩ = some (.slice ba b.subs.length bc) := A1.cell (o := 7) rfl
    by_cases hlt : k < a.subs.length
    · have hlt' : (k : Int) < a.subs.length := by omega
      have hltb : (k : Int) < b.subs.length := by have := HE.out.2.2.2.2; omega
      have hltb' : k < b.subs.length := by omega
      obtain ⟨ta, hta⟩ : ∃ t, a.subs[k]? = some t := ⟨a.subs[k], List.getElem?_eq_getElem hlt⟩
      obtain ⟨tb, htb⟩ : ∃ t, b.subs[k]? = some t := ⟨b.subs[k], List.getElem?_eq_getElem hltb'⟩
      obtain ⟨bl1, off1, a1, c1, rfl, -, -, -, L1, C1⟩ := (HA.out.1.keepF q0).get hta
      obtain ⟨bl2, off2, a2, c2, rfl, -, -, -, L2, C2⟩ := (HA.out.2.keepF q0).get htb
      have hcall : ∀ W', Keep (fun _ => False) wr W' → Calls Try.prog 17 #[nodeV ta a1 c1, nodeV tb a2 c2] W' (IsSame ta tb W') := fun W' q' => HI.out ta tb (by have := sub_less hta; omega) a1 c1 a2 c2 W' (L1.keepF q') (L2.keepF q')
      have hS : ∀ w', Keep (fun _ => False) wr w' → Keep (fun _ => False) wr w' ∧ w'.cell? ⟨w.heap.size, 7, none⟩ = some (.slice (some ⟨bl1, off1, none⟩) a.subs.length ac) ∧ w'.cell? ⟨w.heap.size + 1, 7, none⟩ = some (.slice (some ⟨bl2, off2, none⟩) b.subs.length bc) ∧ w'.cell? ⟨bl1, off1 + k * 8, none⟩ = some (.int .i64 ta.kind) ∧ w'.cell? ⟨bl1, off1 + k * 8 + 1, none⟩ = some (.int .u64 ta.set.x0) ∧ w'.cell? ⟨bl1, off1 + k * 8 + 2, none⟩ = some (.int .u64 ta.set.x1) ∧ w'.cell? ⟨bl1, off1 + k * 8 + 3, none⟩ = some (.int .u64 ta.set.x2) ∧ w'.cell? ⟨bl1, off1 + k * 8 + 4, none⟩ = some (.int .u64 ta.set.x3) ∧ w'.cell? ⟨bl1, off1 + k * 8 + 5, none⟩ = some (.int .i64 ta.mn) ∧ w'.cell? ⟨bl1, off1 + k * 8 + 6, none⟩ = some (.int .i64 ta.mx) ∧ w'.cell? ⟨bl1, off1 + k * 8 + 7, none⟩ = some (.slice a1 ta.subs.length c1) ∧ w'.cell? ⟨bl2, off2 + k * 8, none⟩ = some (.int .i64 tb.kind) ∧ w'.cell? ⟨bl2, off2 + k * 8 + 1, none⟩ = some (.int .u64 tb.set.x0) ∧ w'.cell? ⟨bl2, off2 + k * 8 + 2, none⟩ = some (.int .u64 tb.set.x1) ∧ w'.cell? ⟨bl2, off2 + k * 8 + 3, none⟩ = some (.int .u64 tb.set.x2) ∧ w'.cell? ⟨bl2, off2 + k * 8 + 4, none⟩ = some (.int .u64 tb.set.x3) ∧ w'.cell? ⟨bl2, off2 + k * 8 + 5, none⟩ = some (.int .i64 tb.mn) ∧ w'.cell? ⟨bl2, off2 + k * 8 + 6, none⟩ = some (.int .i64 tb.mx) ∧ w'.cell? ⟨bl2, off2 + k * 8 + 7, none⟩ = some (.slice a2 tb.subs.length c2) := fun w' q' => by
        have e1 := fun j v h => (q'.cell (a := ⟨bl1, off1 + k * 8 + j, none⟩) (World.block_lt_of_cell? wr _ (C1 j v h)) (fun h => h)).trans (C1 j v h)
        have e2 := fun j v h => (q'.cell (a := ⟨bl2, off2 + k * 8 + j, none⟩) (World.block_lt_of_cell? wr _ (C2 j v h)) (fun h => h)).trans (C2 j v h)
        exact ⟨q', (A0.keep q' (fun h => h)).cell (o := 7) rfl, (A1.keep q' (fun h => h)).cell (o := 7) rfl, e1 0 _ rfl, e1 1 _ rfl, e1 2 _ rfl, e1 3 _ rfl, e1 4 _ rfl, e1 5 _ rfl, e1 6 _ rfl, e1 7 _ rfl, e2 0 _ rfl, e2 1 _ rfl, e2 2 _ rfl, e2 3 _ rfl, e2 4 _ rfl, e2 5 _ rfl, e2 6 _ rfl, e2 7 _ rfl⟩
      have HS := Lib.hid (And.intro hS hcall)
      have HQ := Lib.hid (And.intro hq (And.intro hE (And.intro hta htb)))
      clear hS hcall hq hE hta htb L1 L2 C1 C2 A0 A1 q0
      have i0 : (0 : Int) ≤ k := by omega
      go_wp2_with fail
      go_region_held3 (fun w' => Keep (fun _ => False) wr w' ∧ w'.cell? ⟨w.heap.size, 7, none⟩ = some (.slice (some ⟨bl1, off1, none⟩) a.subs.length ac) ∧ w'.cell? ⟨w.heap.size + 1, 7, none⟩ = some (.slice (some ⟨bl2, off2, none⟩) b.subs.length bc) ∧ w'.cell? ⟨bl1, off1 + k * 8, none⟩ = some (.int .i64 ta.kind) ∧ w'.cell? ⟨bl1, off1 + k * 8 + 1, none⟩ = some (.int .u64 ta.set.x0) ∧ w'.cell? ⟨bl1, off1 + k * 8 + 2, none⟩ = some (.int .u64 ta.set.x1) ∧ w'.cell? ⟨bl1, off1 + k * 8 + 3, none⟩ = some (.int .u64 ta.set.x2) ∧ w'.cell? ⟨bl1, off1 + k * 8 + 4, none⟩ = some (.int .u64 ta.set.x3) ∧ w'.cell? ⟨bl1, off1 + k * 8 + 5, none⟩ = some (.int .i64 ta.mn) ∧ w'.cell? ⟨bl1, off1 + k * 8 + 6, none⟩ = some (.int .i64 ta.mx) ∧ w'.cell? ⟨bl1, off1 + k * 8 + 7, none⟩ = some (.slice a1 ta.subs.length c1) ∧ w'.cell? ⟨bl2, off2 + k * 8, none⟩ = some (.int .i64 tb.kind) ∧ w'.cell? ⟨bl2, off2 + k * 8 + 1, none⟩ = some (.int .u64 tb.set.x0) ∧ w'.cell? ⟨bl2, off2 + k * 8 + 2, none⟩ = some (.int .u64 tb.set.x1) ∧ w'.cell? ⟨bl2, off2 + k * 8 + 3, none⟩ = some (.int .u64 tb.set.x2) ∧ w'.cell? ⟨bl2, off2 + k * 8 + 4, none⟩ = some (.int .u64 tb.set.x3) ∧ w'.cell? ⟨bl2, off2 + k * 8 + 5, none⟩ = some (.int .i64 tb.mn) ∧ w'.cell? ⟨bl2, off2 + k * 8 + 6, none⟩ = some (.int .i64 tb.mx) ∧ w'.cell? ⟨bl2, off2 + k * 8 + 7, none⟩ = some (.slice a2 tb.subs.length c2)) (first | exact HS.out.1 _ ((Keep.refl _ _).drew) | exact HS.out.1 _ (Keep.trans (And.left (by assumption)) q)) (first
        | (go_at_call 17; refine (HS.out.2 _ (And.left (by assumption))).mono ?_; rintro e w2 ⟨v, rfl, hv, q⟩))
      all_goals
        rename_i hh
        have HK := Lib.hid (And.intro hh.1 hv)
        clear hh hv
        cases v
        · go_wp2_with fail
          go_ret
          refine ⟨false, rfl, ⟨fun h => (by cases h), fun h => ?_⟩, H0.out.2.2.trans (HQ.out.1.trans HK.out.1)⟩
          have : ta = tb := by
            have e1 := HQ.out.2.2.1
            rw [h, HQ.out.2.2.2] at e1
            injection e1 with e1
            exact e1.symm
          have := HK.out.2.2 this
          cases this
        · go_wp2_with fail
          go_roundg (a.subs.length - (k + 1))
          case measure => omega
          case rel =>
            refine ⟨k + 1, by go_num, by omega, fun j hj => ?_, HQ.out.1.trans HK.out.1⟩
            by_cases e : j = k
            · rw [e, HQ.out.2.2.1, HQ.out.2.2.2, HK.out.2.1 (by first | rfl | trivial)]
            · exact HQ.out.2.1 j (by omega)
    · have hke : ¬ (k : Int) < a.subs.length := by omega
      have HQ := Lib.hid (And.intro hq hE)
      clear hq hE q0 A0 A1
      go_wp2_with fail
      go_ret
      refine ⟨true, rfl, ⟨fun _ => ?_, fun _ => rfl⟩, H0.out.2.2.trans HQ.out.1⟩
      refine T.ext HE.out.1 HE.out.2.1 HE.out.2.2.1 HE.out.2.2.2.1 (List.ext_getElem? fun j => ?_)
      rcases Nat.lt_or_ge j k with h | h
      · exact HQ.out.2 j h
      · have := HE.out.2.2.2.2
        rw [List.getElem?_eq_none (by omega), List.getElem?_eq_none (by omega)]

theorem same_all : ∀ (n : Nat) (a b : T), SizeOf.sizeOf a < n → ∀ (aa : Option Addr) (ac : Nat) (ba : Option Addr) (bc : Nat) (w : World), Lie w (fun _ => True) aa a.subs → Lie w (fun _ => True) ba b.subs → Calls Try.prog 17 #[nodeV a aa ac, nodeV b ba bc] w (IsSame a b w)
  | 0, _, _, h, _, _, _, _, _, _, _ => absurd h (Nat.not_lt_zero _)
  | n + 1, a, b, h, aa, ac, ba, bc, w, ha, hb => same_step n (same_all n) a b h aa ac ba bc w ha hb
/-- Same: are they one expression? -/
theorem same_any (a b : T) (aa : Option Addr) (ac : Nat) (ba : Option Addr) (bc : Nat) (w : World) (ha : Lie w (fun _ => True) aa a.subs) (hb : Lie w (fun _ => True) ba b.subs) : Calls Try.prog 17 #[nodeV a aa ac, nodeV b ba bc] w (IsSame a b w) :=
  same_all _ a b (Nat.lt_succ_self _) aa ac ba bc w ha hb
end Go.Proofs.Ythcjfgfbeollpaa.P07
/- Depth, Size, Few of an expression (layer 7): the document's own. -/
namespace Go.Proofs.Ythcjfgfbeollpaa.P07
open Go.RowKit Go.Proofs.Ythcjfgfbeollpaa.Base Go.Proofs.Ythcjfgfbeollpaa.IL Go.Proofs.Ythcjfgfbeollpaa.Bytes

mutual
/-- How many nodes there are. -/
def cnt : T → Nat
  | .nd _ _ _ _ l => 1 + cntL l
def cntL : List T → Nat
  | [] => 0
  | t :: l => cnt t + cntL l
end
mutual
/-- How deep it is. -/
def dep : T → Nat
  | .nd _ _ _ _ l => depL l + 1
def depL : List T → Nat
  | [] => 0
  | t :: l => max (dep t) (depL l)
end
mutual
/-- How many nodes there are; above 600 it may be fewer. -/
def sz : T → Nat
  | .nd _ _ _ _ l => szL 1 l
def szL (k : Nat) : List T → Nat
  | [] => k
  | t :: l => if k ≤ 600 then szL (k + sz t) l else k
end

theorem cnt_eq (t : T) : cnt t = 1 + cntL t.subs := by cases t; rw [cnt]; rfl
theorem sz_eq (t : T) : sz t = szL 1 t.subs := by cases t; rw [sz]; rfl
theorem cntL_append : ∀ (L M : List T), cntL (L ++ M) = cntL L + cntL M
  | [], M => by rw [List.nil_append, cntL]; omega
  | t :: L, M => by rw [List.cons_append, cntL, cntL, cntL_append L M]; omega
theorem cntL_le {L : List T} {i : Nat} {t : T} (h : L[i]? = some t) : cnt t ≤ cntL L := by
  obtain ⟨M, N, rfl⟩ := List.append_of_mem (List.mem_of_getElem? h)
  rw [cntL_append, cntL]
  omega
end Go.Proofs.Ythcjfgfbeollpaa.P07
/- Size and Few of an expression (layer 7): the document's own. -/
namespace Go.Proofs.Ythcjfgfbeollpaa.P07
open Go.RowKit Go.Proofs.Ythcjfgfbeollpaa.Base Go.Proofs.Ythcjfgfbeollpaa.IL Go.Proofs.Ythcjfgfbeollpaa.Bytes

theorem szL_le : ∀ (L : List T) (k : Nat), (∀ t ∈ L, sz t ≤ cnt t) → szL k L ≤ k + cntL L
  | [], k, _ => by rw [szL, cntL]; omega
  | t :: L, k, h => by
    rw [szL, cntL]
    have h1 := h t (by simp)
    split
    · have := szL_le L (k + sz t) (fun x hx => h x (by simp [hx]))
      omega
    · omega
theorem sz_le_cnt : ∀ n (t : T), SizeOf.sizeOf t < n → sz t ≤ cnt t
  | 0, _, h => absurd h (Nat.not_lt_zero _)
  | n + 1, t, h => by
    rw [sz_eq, cnt_eq]
    exact szL_le _ _ (fun s hs => by
      obtain ⟨i, hi⟩ := List.mem_iff_getElem?.1 hs
      exact sz_le_cnt n s (by have := sub_less hi; omega))
theorem sz_cnt (t : T) : sz t ≤ cnt t := sz_le_cnt _ t (Nat.lt_succ_self _)
theorem szL_ge : ∀ (L : List T) (k : Nat), k ≤ szL k L
  | [], k => by rw [szL]; omega
  | t :: L, k => by
    rw [szL]
    split
    · have := szL_ge L (k + sz t)
      omega
    · omega
theorem szL_exact : ∀ (L : List T) (k : Nat), (∀ t ∈ L, sz t ≤ 600 → sz t = cnt t) → szL k L ≤ 600 → szL k L = k + cntL L
  | [], k, _, _ => by rw [szL, cntL]; omega
  | t :: L, k, h, h6 => by
    rw [szL] at h6 ⊢
    rw [cntL]
    split at h6
    · rename_i hk
      rw [if_pos hk]
      have h1 := szL_ge L (k + sz t)
      have h2 := h t (by simp) (by omega)
      rw [szL_exact L (k + sz t) (fun x hx => h x (by simp [hx])) h6]
      omega
    · omega
theorem sz_exact : ∀ n (t : T), SizeOf.sizeOf t < n → sz t ≤ 600 → sz t = cnt t
  | 0, _, h, _ => absurd h (Nat.not_lt_zero _)
  | n + 1, t, h, h6 => by
    rw [sz_eq] at h6 ⊢
    rw [cnt_eq]
    exact szL_exact _ _ (fun s hs => by
      obtain ⟨i, hi⟩ := List.mem_iff_getElem?.1 hs
      exact sz_exact n s (by have := sub_less hi; omega)) h6
/-- Few nodes: so many. -/
theorem few_cnt {t : T} (h : sz t ≤ 200) : cnt t ≤ 200 := by
  have := sz_exact _ t (Nat.lt_succ_self _) (by omega)
  omega
set_option maxRecDepth 100000 in
set_option maxHeartbeats 1000000 in
theorem size_all : ∀ (n : Nat) (t : T), SizeOf.sizeOf t < n → cnt t ≤ 1000000000 → ∀ (a : Option Addr) (c : Nat) (w : World), Lie w (fun _ => True) a t.subs →
    Calls Try.prog 52 #[nodeV t a c] w fun e w' => e = .returned (.int .i64 (sz t)) ∧ Keep (fun _ => False) w w'
  | 0, _, h, _, _, _, _, _ => absurd h (Nat.not_lt_zero _)
  | n + 1, t, h, hc, a, c, w, hL => by
    have hlen := hL.len
    have a0 := At.new w (ncells t a c) 27
    have q := (Keep.refl (fun _ => False) w).alloc (.cells (ncells t a c) 27)
    have H0 := Lib.hid (And.intro a0 (And.intro q (And.intro hL (size_all n))))
    have hsc := sz_cnt t
    rw [cnt_eq] at hc hsc
    rw [sz_eq] at hsc ⊢
    obtain ⟨D, hD⟩ : ∃ D, szL 1 t.subs = D := ⟨_, rfl⟩
    rw [hD] at hsc ⊢
    have HD0 := Lib.hid hD
    clear a0 q hL hD
    go_enter Try.func52, Try.ntmps52
    go_wp2_with fail
    generalize (w.alloc (.cells (ncells t a c) 27)) = W at *
    go_loopg [3, 4] t.subs.length (fun gg m i wr => ∃ k s : Nat, i = .int .i64 k ∧ k + gg = t.subs.length ∧ m = .int .i64 s ∧ s ≤ 1000000000 ∧ szL s (t.subs.drop k) = D ∧ Keep (fun _ => False) W wr)
    case atStart => exact ⟨0, 1, rfl, by omega, rfl, by omega, by rw [List.drop_zero]; exact HD0.out, Keep.refl _ _⟩
    case round =>
      obtain ⟨k, m, rfl, hk, rfl, hm, hE, hq⟩ := hrel
      have A0 := H0.out.1.keep hq (fun h => h)
      have c7 : wr.cell? ⟨w.heap.size, 7, none⟩ = some (.slice a t.subs.length c) := A0.cell (o := 7) rfl
      by_cases hlt : k < t.subs.length
      · have hlt' : (k : Int) < t.subs.length := by omega
        obtain ⟨s, hs⟩ : ∃ s, t.subs[k]? = some s := ⟨t.subs[k], List.getElem?_eq_getElem hlt⟩
        have hdr : t.subs.drop k = s :: t.subs.drop (k + 1) := by
          have e := List.getElem?_eq_some_iff.1 hs
          rw [← e.2]
          exact List.drop_eq_getElem_cons hlt
        rw [hdr, szL] at hE
        by_cases h6 : m ≤ 600
        · rw [if_pos h6] at hE
          have h6' : (m : Int) ≤ 600 := by omega
          obtain ⟨bl, off, a1, c1, rfl, -, -, -, L1, C1⟩ := (H0.out.2.2.1.keepF (H0.out.2.1.trans hq)).get hs
          obtain ⟨d0, d1, d2, d3, d4, d5, d6, d7⟩ := ncell C1
          have hsl := sub_less hs
          have hcl := cntL_le hs
          have hcall := H0.out.2.2.2 s (by omega) (by omega) a1 c1 wr L1
          have hsz := sz_cnt s
          have hle : m + sz s ≤ 1000000000 := by
            have := szL_ge (t.subs.drop (k + 1)) (m + sz s)
            omega
          have HQ := Lib.hid (And.intro hq (And.intro hcall hE))
          clear hq hcall hs L1 C1 A0 hdr hE
          generalize sz s = d at *
          have i0 : (0 : Int) ≤ k := by omega
          have w1 : IntKind.i64.wrap ((m : Int) + d) = (m : Int) + d := by rw [IntKind.wrap_i64]; omega
          go_wp2_with fail
          refine HQ.out.2.1.mono ?_
          rintro e w2 ⟨rfl, q2⟩
          have Q2 := Lib.hid q2
          clear q2
          go_wp2_with fail
          go_roundg (t.subs.length - (k + 1))
          case measure => omega
          case rel => exact ⟨k + 1, m + d, by go_num, by omega, by first | rfl | (congr 1), hle, HQ.out.2.2, HQ.out.1.trans Q2.out⟩
        · rw [if_neg h6] at hE
          subst hE
          have h6' : ¬ (m : Int) ≤ 600 := by omega
          have HQ := Lib.hid hq
          clear hq A0 hs hdr
          go_wp2_with fail
          go_ret
          exact ⟨rfl, H0.out.2.1.trans HQ.out⟩
      · have hke : k = t.subs.length := by omega
        subst hke
        rw [List.drop_length, szL] at hE
        subst hE
        have HQ := Lib.hid hq
        clear hq A0
        go_wp2_with fail
        go_ret
        exact ⟨rfl, H0.out.2.1.trans HQ.out⟩

theorem few_any (t : T) (hc : cnt t ≤ 1000000000) (a : Option Addr) (c : Nat) (w : World) (hL : Lie w (fun _ => True) a t.subs) :
    Calls Try.prog 14 #[nodeV t a c] w fun e w' => e = .returned (.bool (decide (sz t ≤ 200))) ∧ Keep (fun _ => False) w w' := by
  have H := Lib.hid (size_all _ t (Nat.lt_succ_self _) hc a c)
  have HL := Lib.hid hL
  clear hL
  by_cases h2 : sz t ≤ 200
  · have h2' : (sz t : Int) ≤ 200 := by omega
    have he := decide_eq_true h2
    rw [he]
    clear he h2
    go_enter Try.func14, Try.ntmps14
    go_wp2_with fail
    refine (H.out _ (by first | exact HL.out | exact HL.out.keepF ((Keep.refl _ _).alloc _))).mono ?_
    rintro e w2 ⟨rfl, q2⟩
    have Q2 := Lib.hid q2
    clear q2
    go_wp2_with fail
    go_ret
    exact ⟨rfl, by first | exact Q2.out | exact ((Keep.refl (fun _ => False) w).alloc _).trans Q2.out⟩
  · have h2' : ¬ (sz t : Int) ≤ 200 := by omega
    have HF := Lib.hid h2'
    have he := decide_eq_false h2
    rw [he]
    clear he h2
    go_enter Try.func14, Try.ntmps14
    go_wp2_with fail
    refine (H.out _ (by first | exact HL.out | exact HL.out.keepF ((Keep.refl _ _).alloc _))).mono ?_
    rintro e w2 ⟨rfl, q2⟩
    have Q2 := Lib.hid q2
    clear q2
    go_wp2_with fail
    go_ret
    exact ⟨by first | rfl | exact ret_bool (decide_eq_false (by have := HF.out; omega)), by first | exact Q2.out | exact ((Keep.refl (fun _ => False) w).alloc _).trans Q2.out⟩
end Go.Proofs.Ythcjfgfbeollpaa.P07
