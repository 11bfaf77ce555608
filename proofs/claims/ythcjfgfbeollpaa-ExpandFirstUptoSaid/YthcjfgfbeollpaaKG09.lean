/- Contracts of bytes256's functions on sets (four words): Has, Or, And, Not, and the document's own Has; OnesCount64. -/
import Derived.Test.YthcjfgfbeollpaaKG05
import Derived.Test.YthcjfgfbeollpaaKG02
import Derived.Test.YthcjfgfbeollpaaChecked
import Derived.Laws.Bits64b
import Derived.Deep.LoopGhost
import Derived.TacticsInMore
namespace Go.Proofs.Ythcjfgfbeollpaa.Bytes
open Go.RowKit Go.Proofs.Ythcjfgfbeollpaa.Base Go.Proofs.Ythcjfgfbeollpaa.Sets

/-- A set's cells, and its value. -/
@[reducible] def cells (s : ST) : Array Value := #[.int .u64 s.x0, .int .u64 s.x1, .int .u64 s.x2, .int .u64 s.x3]
@[reducible] def val (s : ST) : Value := .agg (cells s)

theorem cells_at (s : ST) (i : Nat) (h : i < 4) : (cells s)[i]? = some (.int .u64 (s.w i)) := by
  match i, h with
  | 0, _ => rfl
  | 1, _ => rfl
  | 2, _ => rfl
  | 3, _ => rfl

theorem ret_bool {a b : Bool} (h : a = b) : Ending.returned (.bool a) = .returned (.bool b) := by rw [h]
theorem shr_nat (x j : Nat) : (x : Int) / 2 ^ j = ((x / 2 ^ j : Nat) : Int) := by
  rw [Int.natCast_ediv, Int.natCast_pow]
  rfl

theorem bit_mod (x j : Nat) : (((x : Int) / 2 ^ j).tmod 2 == 1) = x.testBit j := by
  rw [shr_nat, Nat.testBit_eq_decide_div_mod_eq]
  generalize x / 2 ^ j = y
  have e : (y : Int).tmod 2 = ((y % 2 : Nat) : Int) := by rw [Int.tmod_eq_emod_of_nonneg (by omega)]; rfl
  rw [e]
  rcases Nat.mod_two_eq_zero_or_one y with h | h <;> rw [h] <;> rfl


theorem rhas_any (s : ST) (b : Nat) (hb : b < 256) (w : World) : Calls Try.prog 84 #[val s, .int .i64 b] w fun e w' => e = .returned (.bool (s.has b)) ∧ Keep (fun _ => False) w w' := by
  have hc := (At.new w (cells s) 24).cell (cells_at s (b / 64) (by omega))
  have hx := bit_mod (s.w (b / 64)) (b % 64)
  have HX := Lib.hid hx
  clear hx
  unfold ST.has
  generalize s.w (b / 64) = x at *
  go_enter Try.func84, Try.ntmps84
  go_wp2
  go_ret
  exact ⟨ret_bool HX.out, (Keep.refl _ _).alloc _⟩

theorem wrap_lt (n : Nat) (h : n < 18446744073709551616) : IntKind.u64.wrap (n : Int) = n := by rw [IntKind.wrap_u64]; omega

/-- The first k words are f's. -/
def mix (f : Nat → Nat) (s : ST) (k : Nat) : ST := .of4 fun i => if i < k then f i else s.w i
theorem mix_4 (f : Nat → Nat) (s : ST) : mix f s 4 = .of4 f := rfl
theorem mix_at (f : Nat → Nat) (s : ST) (k : Nat) (h : k < 4) : (cells (mix f s k))[k]? = some (.int .u64 (s.w k)) := by
  rw [cells_at _ _ h, mix, ST.w_of4 _ _ h, if_neg (by omega)]
theorem mix_set (f : Nat → Nat) (s : ST) (k : Nat) (h : k < 4) : (cells (mix f s k)).setIfInBounds k (.int .u64 (f k)) = cells (mix f s (k + 1)) := by
  match k, h with
  | 0, _ => rfl
  | 1, _ => rfl
  | 2, _ => rfl
  | 3, _ => rfl

/-- xor with all ones. -/
theorem com_u64 (x : Nat) (hx : x < 18446744073709551616) : bits BinOp.xor IntKind.u64 IntKind.u64.max (x : Int) = ((18446744073709551615 - x : Nat) : Int) := by
  have e1 : (BitVec.ofInt 64 IntKind.u64.max) = BitVec.allOnes 64 := by decide
  have e2 : BitVec.ofInt 64 (x : Int) = BitVec.ofNat 64 x := BitVec.ofInt_natCast ..
  show IntKind.u64.wrap ((BitVec.ofInt 64 IntKind.u64.max ^^^ BitVec.ofInt 64 (x : Int)).toNat : Int) = _
  rw [e1, e2, BitVec.allOnes_xor, BitVec.toNat_not, BitVec.toNat_ofNat]
  have e3 : x % 2 ^ 64 = x := Nat.mod_eq_of_lt (by omega)
  rw [e3, IntKind.wrap_u64]
  omega

@[reducible] def zeros : Array Value := #[.int .u64 0, .int .u64 0, .int .u64 0, .int .u64 0]

theorem cells4 {w : World} {b : Nat} {t : TypeId} {y0 y1 y2 y3 : Value} (h : At w b t #[y0, y1, y2, y3]) :
    (w.cell? ⟨b, 0, none⟩ = some y0 ∧ w.cell? ⟨b, 1, none⟩ = some y1 ∧ w.cell? ⟨b, 2, none⟩ = some y2 ∧ w.cell? ⟨b, 3, none⟩ = some y3) ∧
    (w.frozen? ⟨b, 0, none⟩ = false ∧ w.frozen? ⟨b, 1, none⟩ = false ∧ w.frozen? ⟨b, 2, none⟩ = false ∧ w.frozen? ⟨b, 3, none⟩ = false) :=
  ⟨⟨h.cell rfl, h.cell rfl, h.cell rfl, h.cell rfl⟩, h.frozen 0, h.frozen 1, h.frozen 2, h.frozen 3⟩

theorem set4 {w : World} {b : Nat} {t : TypeId} {y0 y1 y2 y3 : Value} (h : At w b t #[y0, y1, y2, y3]) (v0 v1 v2 v3 : Value) :
    At ((((w.setCell ⟨b, 0, none⟩ v0).setCell ⟨b, 1, none⟩ v1).setCell ⟨b, 2, none⟩ v2).setCell ⟨b, 3, none⟩ v3) b t #[v0, v1, v2, v3] :=
  (((h.set 0 v0).set 1 v1).set 2 v2).set 3 v3

theorem keep4 {S : Nat → Prop} {a w : World} (h : Keep S a w) {b : Nat} (hp : b < a.heap.size → S b) (v0 v1 v2 v3 : Value) :
    Keep S a ((((w.setCell ⟨b, 0, none⟩ v0).setCell ⟨b, 1, none⟩ v1).setCell ⟨b, 2, none⟩ v2).setCell ⟨b, 3, none⟩ v3) :=
  (((h.setCell (p := ⟨b, 0, none⟩) hp v0).setCell (p := ⟨b, 1, none⟩) hp v1).setCell (p := ⟨b, 2, none⟩) hp v2).setCell (p := ⟨b, 3, none⟩) hp v3

theorem not_any (s : ST) (hs : s.Ok) (w : World) : Calls Try.prog 129 #[val s] w fun e w' => e = .returned (val s.not) ∧ Keep (fun _ => False) w w' := by
  go_enter Try.func129, Try.ntmps129
  go_wp2_with fail
  have a1 := (At.new w (cells s) 24).alloc (.cells zeros 24)
  have a2 := At.new (w.alloc (.cells (cells s) 24)) zeros 24
  have q := ((Keep.refl (fun _ => False) w).alloc (.cells (cells s) 24)).alloc (.cells zeros 24)
  rw [show (w.alloc (.cells (cells s) 24)).heap.size = w.heap.size + 1 from by simp] at a2
  have A1 := Lib.hid (And.intro a1 (And.intro a2 q))
  clear a1 a2 q
  generalize ((w.alloc (.cells (cells s) 24)).alloc (.cells zeros 24)) = W at *
  go_loopg [4] 4 (fun gg i wr => ∃ k : Nat, k + gg = 4 ∧ i = .int .i64 k ∧ At wr w.heap.size 24 (cells (mix (fun i => 18446744073709551615 - s.w i) s k)) ∧ At wr (w.heap.size + 1) 24 zeros ∧ Keep (fun _ => False) w wr)
  case atStart => exact ⟨0, rfl, rfl, A1.out.1, A1.out.2.1, A1.out.2.2⟩
  case round =>
    obtain ⟨k, hk, rfl, h1, h2, hq⟩ := hrel
    by_cases hlt : k < 4
    · have hc := h1.cell (mix_at (fun i => 18446744073709551615 - s.w i) s k hlt)
      have hf := h1.frozen k
      have hx := com_u64 _ (hs.w k)
      have H := Lib.hid (And.intro hk (And.intro h1 (And.intro h2 hq)))
      clear hk h1 h2 hq
      go_wp2
      go_roundg (4 - (k + 1))
      case measure => have := H.out.1; omega
      case rel =>
        obtain ⟨hk, h1, h2, hq⟩ := H.out
        have h3 := h1.set k (.int .u64 ((18446744073709551615 - s.w k : Nat) : Int))
        rw [mix_set _ _ _ hlt] at h3
        refine ⟨k + 1, by omega, by go_num, ?_, h2.setOther (p := ⟨w.heap.size, k, none⟩) (by simp) _, hq.setCell (p := ⟨w.heap.size, k, none⟩) (fun h => absurd h (by simp)) _⟩
        exact h3
    · have hk4 : k = 4 := by omega
      subst hk4
      rw [mix_4] at h1
      rw [show ST.of4 (fun i => 18446744073709551615 - s.w i) = s.not from rfl] at h1
      generalize hr : s.not = r at h1
      obtain ⟨⟨c0, c1, c2, c3⟩, -⟩ := cells4 h1
      obtain ⟨⟨d0, d1, d2, d3⟩, f0, f1, f2, f3⟩ := cells4 h2
      have H := Lib.hid (And.intro hr (And.intro h2 hq))
      clear h1 h2 hq hk A1 hr
      go_wp2
      have a := set4 H.out.2.1 (.int .u64 r.x0) (.int .u64 r.x1) (.int .u64 r.x2) (.int .u64 r.x3)
      have q := keep4 H.out.2.2 (b := w.heap.size + 1) (fun h => absurd h (by simp)) (.int .u64 r.x0) (.int .u64 r.x1) (.int .u64 r.x2) (.int .u64 r.x3)
      generalize World.setCell _ _ _ = W2 at *
      obtain ⟨⟨e0, e1, e2, e3⟩, -⟩ := cells4 a
      exact bodyPost_ret (v := val r) (by simp [results, Try.results129, go_sem, e0, e1, e2, e3]) rfl ⟨by rw [H.out.1], q⟩

theorem and_any (s t : ST) (hs : s.Ok) (ht : t.Ok) (w : World) : Calls Try.prog 127 #[val s, val t] w fun e w' => e = .returned (val (s.and t)) ∧ Keep (fun _ => False) w w' := by
  go_enter Try.func127, Try.ntmps127
  go_wp2_with fail
  have a1 := ((At.new w (cells s) 24).alloc (.cells (cells t) 24)).alloc (.cells zeros 24)
  have a2 := (At.new (w.alloc (.cells (cells s) 24)) (cells t) 24).alloc (.cells zeros 24)
  have a3 := At.new ((w.alloc (.cells (cells s) 24)).alloc (.cells (cells t) 24)) zeros 24
  have q := (((Keep.refl (fun _ => False) w).alloc (.cells (cells s) 24)).alloc (.cells (cells t) 24)).alloc (.cells zeros 24)
  rw [show (w.alloc (.cells (cells s) 24)).heap.size = w.heap.size + 1 from by simp] at a2
  rw [show ((w.alloc (.cells (cells s) 24)).alloc (.cells (cells t) 24)).heap.size = w.heap.size + 2 from by simp] at a3
  have A1 := Lib.hid (And.intro a1 (And.intro a2 (And.intro a3 q)))
  clear a1 a2 a3 q
  generalize (((w.alloc (.cells (cells s) 24)).alloc (.cells (cells t) 24)).alloc (.cells zeros 24)) = W at *
  go_loopg [6] 4 (fun gg i wr => ∃ k : Nat, k + gg = 4 ∧ i = .int .i64 k ∧ At wr w.heap.size 24 (cells (mix (fun i => s.w i &&& t.w i) s k)) ∧ At wr (w.heap.size + 1) 24 (cells t) ∧ At wr (w.heap.size + 2) 24 zeros ∧ Keep (fun _ => False) w wr)
  case atStart => exact ⟨0, rfl, rfl, A1.out.1, A1.out.2.1, A1.out.2.2.1, A1.out.2.2.2⟩
  case round =>
    obtain ⟨k, hk, rfl, h1, h4, h2, hq⟩ := hrel
    by_cases hlt : k < 4
    · have hc := h1.cell (mix_at (fun i => s.w i &&& t.w i) s k hlt)
      have hct := h4.cell (cells_at t k hlt)
      have hf := h1.frozen k
      have hx := bits_and_u64_nat _ _ (hs.w k) (ht.w k)
      have i0 : (0 : Int) ≤ (k : Int) := by omega
      have i4 : (k : Int) < 4 := by omega
      have H := Lib.hid (And.intro hk (And.intro h1 (And.intro h4 (And.intro h2 hq))))
      clear hk h1 h2 h4 hq
      go_wp2_with fail
      go_region
      go_wp2
      go_roundg (4 - (k + 1))
      case measure => have := H.out.1; omega
      case rel =>
        obtain ⟨hk, h1, h4, h2, hq⟩ := H.out
        have h3 := h1.set k (.int .u64 ((s.w k &&& t.w k : Nat) : Int))
        rw [mix_set (fun i => s.w i &&& t.w i) _ _ hlt] at h3
        refine ⟨k + 1, by omega, by go_num, ?_, h4.setOther (p := ⟨w.heap.size, k, none⟩) (by simp) _, h2.setOther (p := ⟨w.heap.size, k, none⟩) (by simp) _, (hq.setCell (p := ⟨w.heap.size, k, none⟩) (fun h => absurd h (by simp)) _).drew⟩
        exact h3
    · have hk4 : k = 4 := by omega
      subst hk4
      rw [mix_4] at h1
      rw [show ST.of4 (fun i => s.w i &&& t.w i) = s.and t from rfl] at h1
      generalize hr : s.and t = r at h1
      obtain ⟨⟨c0, c1, c2, c3⟩, -⟩ := cells4 h1
      obtain ⟨⟨d0, d1, d2, d3⟩, f0, f1, f2, f3⟩ := cells4 h2
      have H := Lib.hid (And.intro hr (And.intro h2 hq))
      clear h1 h2 hq hk A1 hr
      go_wp2
      have a := set4 H.out.2.1 (.int .u64 r.x0) (.int .u64 r.x1) (.int .u64 r.x2) (.int .u64 r.x3)
      have q := keep4 H.out.2.2 (b := w.heap.size + 2) (fun h => absurd h (by simp)) (.int .u64 r.x0) (.int .u64 r.x1) (.int .u64 r.x2) (.int .u64 r.x3)
      generalize World.setCell _ _ _ = W2 at *
      obtain ⟨⟨e0, e1, e2, e3⟩, -⟩ := cells4 a
      exact bodyPost_ret (v := val r) (by simp [results, Try.results127, go_sem, e0, e1, e2, e3]) rfl ⟨by rw [H.out.1], q⟩

theorem or_any (s t : ST) (hs : s.Ok) (ht : t.Ok) (w : World) : Calls Try.prog 130 #[val s, val t] w fun e w' => e = .returned (val (s.or t)) ∧ Keep (fun _ => False) w w' := by
  go_enter Try.func130, Try.ntmps130
  go_wp2_with fail
  have a1 := ((At.new w (cells s) 24).alloc (.cells (cells t) 24)).alloc (.cells zeros 24)
  have a2 := (At.new (w.alloc (.cells (cells s) 24)) (cells t) 24).alloc (.cells zeros 24)
  have a3 := At.new ((w.alloc (.cells (cells s) 24)).alloc (.cells (cells t) 24)) zeros 24
  have q := (((Keep.refl (fun _ => False) w).alloc (.cells (cells s) 24)).alloc (.cells (cells t) 24)).alloc (.cells zeros 24)
  rw [show (w.alloc (.cells (cells s) 24)).heap.size = w.heap.size + 1 from by simp] at a2
  rw [show ((w.alloc (.cells (cells s) 24)).alloc (.cells (cells t) 24)).heap.size = w.heap.size + 2 from by simp] at a3
  have A1 := Lib.hid (And.intro a1 (And.intro a2 (And.intro a3 q)))
  clear a1 a2 a3 q
  generalize (((w.alloc (.cells (cells s) 24)).alloc (.cells (cells t) 24)).alloc (.cells zeros 24)) = W at *
  go_loopg [6] 4 (fun gg i wr => ∃ k : Nat, k + gg = 4 ∧ i = .int .i64 k ∧ At wr w.heap.size 24 (cells (mix (fun i => s.w i ||| t.w i) s k)) ∧ At wr (w.heap.size + 1) 24 (cells t) ∧ At wr (w.heap.size + 2) 24 zeros ∧ Keep (fun _ => False) w wr)
  case atStart => exact ⟨0, rfl, rfl, A1.out.1, A1.out.2.1, A1.out.2.2.1, A1.out.2.2.2⟩
  case round =>
    obtain ⟨k, hk, rfl, h1, h4, h2, hq⟩ := hrel
    by_cases hlt : k < 4
    · have hc := h1.cell (mix_at (fun i => s.w i ||| t.w i) s k hlt)
      have hct := h4.cell (cells_at t k hlt)
      have hf := h1.frozen k
      have hx := bits_or_u64_nat _ _ (hs.w k) (ht.w k)
      have i0 : (0 : Int) ≤ (k : Int) := by omega
      have i4 : (k : Int) < 4 := by omega
      have H := Lib.hid (And.intro hk (And.intro h1 (And.intro h4 (And.intro h2 hq))))
      clear hk h1 h2 h4 hq
      go_wp2_with fail
      go_region
      go_wp2
      go_roundg (4 - (k + 1))
      case measure => have := H.out.1; omega
      case rel =>
        obtain ⟨hk, h1, h4, h2, hq⟩ := H.out
        have h3 := h1.set k (.int .u64 ((s.w k ||| t.w k : Nat) : Int))
        rw [mix_set (fun i => s.w i ||| t.w i) _ _ hlt] at h3
        refine ⟨k + 1, by omega, by go_num, ?_, h4.setOther (p := ⟨w.heap.size, k, none⟩) (by simp) _, h2.setOther (p := ⟨w.heap.size, k, none⟩) (by simp) _, (hq.setCell (p := ⟨w.heap.size, k, none⟩) (fun h => absurd h (by simp)) _).drew⟩
        exact h3
    · have hk4 : k = 4 := by omega
      subst hk4
      rw [mix_4] at h1
      rw [show ST.of4 (fun i => s.w i ||| t.w i) = s.or t from rfl] at h1
      generalize hr : s.or t = r at h1
      obtain ⟨⟨c0, c1, c2, c3⟩, -⟩ := cells4 h1
      obtain ⟨⟨d0, d1, d2, d3⟩, f0, f1, f2, f3⟩ := cells4 h2
      have H := Lib.hid (And.intro hr (And.intro h2 hq))
      clear h1 h2 hq hk A1 hr
      go_wp2
      have a := set4 H.out.2.1 (.int .u64 r.x0) (.int .u64 r.x1) (.int .u64 r.x2) (.int .u64 r.x3)
      have q := keep4 H.out.2.2 (b := w.heap.size + 2) (fun h => absurd h (by simp)) (.int .u64 r.x0) (.int .u64 r.x1) (.int .u64 r.x2) (.int .u64 r.x3)
      generalize World.setCell _ _ _ = W2 at *
      obtain ⟨⟨e0, e1, e2, e3⟩, -⟩ := cells4 a
      exact bodyPost_ret (v := val r) (by simp [results, Try.results130, go_sem, e0, e1, e2, e3]) rfl ⟨by rw [H.out.1], q⟩

end Go.Proofs.Ythcjfgfbeollpaa.Bytes
/- Contracts of bytes256's below, Of, One. -/
namespace Go.Proofs.Ythcjfgfbeollpaa.Bytes
open Go.RowKit Go.Proofs.Ythcjfgfbeollpaa.Base Go.Proofs.Ythcjfgfbeollpaa.Sets

theorem at_eq {w : World} {p : Addr} {a a' : Int} {b : Nat} {t : TypeId} {cs : Array Value} (h : At (w.setCell p (.int .u64 a)) b t cs) (e : a' = a) : At (w.setCell p (.int .u64 a')) b t cs := by rw [e]; exact h

theorem pow_all : ∀ m, m < 65 → IntKind.u64.wrap (IntKind.u64.wrap (2 ^ m) - 1) = ((2 ^ m - 1 : Nat) : Int) := by decide +kernel
theorem below_hi (n k : Nat) (h : 64 < (n : Int) - 64 * (k : Int)) : IntKind.u64.wrap (IntKind.u64.wrap 18446744073709551616 - 1) = ((2 ^ min (n - 64 * k) 64 - 1 : Nat) : Int) := by
  rw [show min (n - 64 * k) 64 = 64 from by omega]
  decide
theorem below_mid (n k : Nat) (h : 0 ≤ (n : Int) - 64 * (k : Int)) (h' : (n : Int) - 64 * (k : Int) ≤ 64) : IntKind.u64.wrap (IntKind.u64.wrap (2 ^ ((n : Int) - 64 * (k : Int)).toNat) - 1) = ((2 ^ min (n - 64 * k) 64 - 1 : Nat) : Int) := by
  rw [show min (n - 64 * k) 64 = n - 64 * k from by omega, show ((n : Int) - 64 * (k : Int)).toNat = n - 64 * k from by omega]
  exact pow_all _ (by omega)
theorem below_lo (n k : Nat) (h : (n : Int) - 64 * (k : Int) < 0) : 0 = ((2 ^ min (n - 64 * k) 64 - 1 : Nat) : Int) := by
  rw [show min (n - 64 * k) 64 = 0 from by omega]
  rfl

theorem below_any (n : Nat) (hn : n ≤ 256) (w : World) : Calls Try.prog 128 #[.int .i64 n] w fun e w' => e = .returned (val (ST.below n)) ∧ Keep (fun _ => False) w w' := by
  go_enter Try.func128, Try.ntmps128
  go_wp2_with fail
  have a1 := (At.new w zeros 24).alloc (.cells zeros 24)
  have a2 := At.new (w.alloc (.cells zeros 24)) zeros 24
  have q := ((Keep.refl (fun _ => False) w).alloc (.cells zeros 24)).alloc (.cells zeros 24)
  rw [show (w.alloc (.cells zeros 24)).heap.size = w.heap.size + 1 from by simp] at a2
  have A1 := Lib.hid (And.intro a1 (And.intro a2 q))
  clear a1 a2 q
  generalize ((w.alloc (.cells zeros 24)).alloc (.cells zeros 24)) = W at *
  go_loopg [5] 4 (fun gg i wr => ∃ k : Nat, k + gg = 4 ∧ i = .int .i64 k ∧ At wr w.heap.size 24 zeros ∧ At wr (w.heap.size + 1) 24 (cells (mix (fun i => 2 ^ min (n - 64 * i) 64 - 1) .none k)) ∧ Keep (fun _ => False) w wr)
  case atStart => exact ⟨0, rfl, rfl, A1.out.1, A1.out.2.1, A1.out.2.2⟩
  case round =>
    obtain ⟨k, hk, rfl, h2, h1, hq⟩ := hrel
    by_cases hlt : k < 4
    · have hc := h1.cell (mix_at (fun i => 2 ^ min (n - 64 * i) 64 - 1) .none k hlt)
      have hf := h1.frozen k
      have H := Lib.hid (And.intro hk (And.intro h1 (And.intro h2 hq)))
      clear hk h1 h2 hq
      go_wp2
      all_goals
        go_roundg (4 - (k + 1))
        case measure => have := H.out.1; omega
        case rel =>
          obtain ⟨hk, h1, h2, hq⟩ := H.out
          have h3 := h1.set k (.int .u64 ((2 ^ min (n - 64 * k) 64 - 1 : Nat) : Int))
          rw [mix_set (fun i => 2 ^ min (n - 64 * i) 64 - 1) _ _ hlt] at h3
          refine ⟨k + 1, by omega, by go_num, h2.setOther (p := ⟨w.heap.size + 1, k, none⟩) (by simp) _, ?_, (hq.setCell (p := ⟨w.heap.size + 1, k, none⟩) (fun h => absurd h (by simp)) _)⟩
          exact at_eq h3 (by first | exact below_hi n k (by omega) | exact below_mid n k (by omega) (by omega) | exact below_lo n k (by omega))
    · have hk4 : k = 4 := by omega
      subst hk4
      rw [mix_4] at h1
      rw [show ST.of4 (fun i => 2 ^ min (n - 64 * i) 64 - 1) = ST.below n from rfl] at h1
      generalize hr : ST.below n = r at h1
      obtain ⟨⟨c0, c1, c2, c3⟩, -⟩ := cells4 h1
      obtain ⟨⟨d0, d1, d2, d3⟩, f0, f1, f2, f3⟩ := cells4 h2
      have H := Lib.hid (And.intro hr (And.intro h2 hq))
      clear h1 h2 hq hk A1 hr
      go_wp2
      have a := set4 H.out.2.1 (.int .u64 r.x0) (.int .u64 r.x1) (.int .u64 r.x2) (.int .u64 r.x3)
      have q := keep4 H.out.2.2 (b := w.heap.size) (fun h => absurd h (by simp)) (.int .u64 r.x0) (.int .u64 r.x1) (.int .u64 r.x2) (.int .u64 r.x3)
      generalize World.setCell _ _ _ = W2 at *
      obtain ⟨⟨e0, e1, e2, e3⟩, -⟩ := cells4 a
      exact bodyPost_ret (v := val r) (by simp [results, Try.results128, go_sem, e0, e1, e2, e3]) rfl ⟨by rw [H.out.1], q⟩

theorem of_any (lo hi : Nat) (hl : lo < 256) (hh : hi < 256) (w : World) : Calls Try.prog 121 #[.int .u8 lo, .int .u8 hi] w fun e w' => e = .returned (val (ST.range lo hi)) ∧ Keep (fun _ => False) w w' := by
  go_enter Try.func121, Try.ntmps121
  go_wp2_with fail
  have a1 := At.new w zeros 24
  have q1 := (Keep.refl (fun _ => False) w).alloc (.cells zeros 24)
  have A1 := Lib.hid (And.intro a1 q1)
  clear a1 q1
  generalize (w.alloc (.cells zeros 24)) = W at *
  refine (below_any (hi + 1) (by omega) _).mono ?_
  rintro e w1 ⟨rfl, q1⟩
  go_wp2_with fail
  refine (below_any lo (by omega) _).mono ?_
  rintro e w2 ⟨rfl, q2⟩
  go_wp2_with fail
  refine (not_any _ (ST.below_ok _) _).mono ?_
  rintro e w3 ⟨rfl, q3⟩
  go_wp2_with fail
  refine (and_any _ _ (ST.below_ok _) (ST.not_ok _) _).mono ?_
  rintro e w4 ⟨rfl, q4⟩
  have q := ((q1.trans q2).trans q3).trans q4
  have h2 := A1.out.1.keep q (fun h => h)
  have hq := A1.out.2.trans q
  generalize hr : (ST.below (hi + 1)).and (ST.below lo).not = r at *
  obtain ⟨⟨d0, d1, d2, d3⟩, f0, f1, f2, f3⟩ := cells4 h2
  have H := Lib.hid (And.intro hr (And.intro h2 hq))
  clear q1 q2 q3 q4 q h2 hq hr A1
  go_wp2
  have a := set4 H.out.2.1 (.int .u64 r.x0) (.int .u64 r.x1) (.int .u64 r.x2) (.int .u64 r.x3)
  have q := keep4 H.out.2.2 (b := w.heap.size) (fun h => absurd h (by simp)) (.int .u64 r.x0) (.int .u64 r.x1) (.int .u64 r.x2) (.int .u64 r.x3)
  generalize World.setCell _ _ _ = W2 at *
  obtain ⟨⟨e0, e1, e2, e3⟩, -⟩ := cells4 a
  exact bodyPost_ret (v := val r) (by simp [results, Try.results121, go_sem, e0, e1, e2, e3]) rfl ⟨by rw [← H.out.1]; rfl, q⟩

theorem one_any (b : Nat) (hb : b < 256) (w : World) : Calls Try.prog 123 #[.int .u8 b] w fun e w' => e = .returned (val (ST.one b)) ∧ Keep (fun _ => False) w w' := by
  go_enter Try.func123, Try.ntmps123
  go_wp2_with fail
  have a1 := At.new w zeros 24
  have q1 := (Keep.refl (fun _ => False) w).alloc (.cells zeros 24)
  have A1 := Lib.hid (And.intro a1 q1)
  clear a1 q1
  generalize (w.alloc (.cells zeros 24)) = W at *
  refine (of_any b b hb hb _).mono ?_
  rintro e w1 ⟨rfl, q1⟩
  have h2 := A1.out.1.keep q1 (fun h => h)
  have hq := A1.out.2.trans q1
  generalize hr : ST.range b b = r at *
  obtain ⟨⟨d0, d1, d2, d3⟩, f0, f1, f2, f3⟩ := cells4 h2
  have H := Lib.hid (And.intro hr (And.intro h2 hq))
  clear q1 h2 hq hr A1
  go_wp2
  have a := set4 H.out.2.1 (.int .u64 r.x0) (.int .u64 r.x1) (.int .u64 r.x2) (.int .u64 r.x3)
  have q := keep4 H.out.2.2 (b := w.heap.size) (fun h => absurd h (by simp)) (.int .u64 r.x0) (.int .u64 r.x1) (.int .u64 r.x2) (.int .u64 r.x3)
  generalize World.setCell _ _ _ = W2 at *
  obtain ⟨⟨e0, e1, e2, e3⟩, -⟩ := cells4 a
  exact bodyPost_ret (v := val r) (by simp [results, Try.results123, go_sem, e0, e1, e2, e3]) rfl ⟨by rw [← H.out.1]; rfl, q⟩

end Go.Proofs.Ythcjfgfbeollpaa.Bytes
