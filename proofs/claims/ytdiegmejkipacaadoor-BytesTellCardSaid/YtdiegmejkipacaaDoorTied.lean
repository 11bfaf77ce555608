/- What a tied card's condition gives a walk (the library's table of trailing zeros stands in its variable), a world that meets it, and a set as an argument. -/
import Derived.Test.YtdiegmejkipacaaDoorRows
import Derived.Test.YtdiegmejkipacaaDoorLaw04Awake
import Derived.LaidMore
import Derived.ProofKit
import Derived.OpenShut
import Derived.Stop.Joined
import Derived.MakeChecks
import Derived.Laws.IdiomArrays
namespace Go.Proofs.YtdiegmejkipacaaDoor.Tied
open Go.ChangeShapes Go.WideShapes Go.ChangeAt Go.RowKit Go.Proofs.YtdiegmejkipacaaDoor.Base Go.Proofs.YtdiegmejkipacaaDoor.Sets Go.Proofs.YtdiegmejkipacaaDoor.Bytes

def laid : List (String × DataW Unit) := [("math/bits.deBruijn64tab", Rows.laid_math_bits_deBruijn64tab)]

theorem gTab : Tryd.prog.globalNamed "math/bits.deBruijn64tab" = some 0 := by kernel_rfl
theorem tTab : (Tryd.prog.globals[0]?).map (·.type) = some 63 := by kernel_rfl

/-- The door's own heap meets the condition. -/
theorem door_met (os : Os) (args : Array Value) : laidMetH Tryd.prog laid ((World.doorLaid Tryd.prog 400 os).forCall (fun _ _ => 0) ⟨#[], args, []⟩).memory :=
  laidMetH_of_parts3 (fuel := 8) (laidMet_of_run' 8 (by kernel_rfl) (by kernel_rfl)) (by kernel_rfl) (by kernel_rfl)

theorem c5 : Tryd.prog.cellsOf 5 = 1 := by kernel_rfl
theorem c63 : Tryd.prog.cellsOf 63 = 64 := by kernel_rfl

theorem datum : (Rows.laid_math_bits_deBruijn64tab : DataW Unit) = .agg (Lib.deBruijn64tab.map fun n : Nat => .lit (.int .u8 (n : Int))) := rfl

/-- THE TABLE's CELLS. -/
theorem of_laid {W : World} (h : laidMetH Tryd.prog laid W) : Tab W := by
  rw [MakeChecks.laidMetH_plain _ _ _ (by kernel_rfl)] at h
  obtain ⟨ps, ⟨g0, t0, cs0, f0, p0, q0, hg0, ht0, hv0, hd0, _, _⟩, _, _⟩ := h
  obtain rfl := Option.some.inj (gTab.symm.trans hg0)
  obtain rfl := Option.some.inj (tTab.symm.trans ht0)
  obtain ⟨xs, m1, rfl, hx1, hlen, hn3, hel⟩ := DataW.trod_array Tryd.underlying63 hd0
  intro j hj
  have hj64 : j < 64 := hj
  have h0 := hel j hj64
  rw [c5] at h0
  rw [datum] at hx1
  injection hx1 with hx1 _
  injection hx1 with hx1
  have hxj : (xs.map (·.1))[j]? = some (.lit (.int .u8 (Lib.deBruijn64tab.getD j 0 : Int))) := by
    rw [← hx1, List.getElem?_map]
    have : Lib.deBruijn64tab[j]? = some (Lib.deBruijn64tab.getD j 0) := by
      rw [List.getD_eq_getElem?_getD, List.getElem?_eq_getElem hj]
      rfl
    rw [this]
    rfl
  rw [List.getElem?_map] at hxj
  cases hxe : xs[j]? with
  | none => rw [hxe] at hxj; cases hxj
  | some x =>
    rw [hxe] at h0 hxj
    obtain ⟨k, e1, e2, _⟩ := DataW.trod_int Tryd.underlying5 h0
    rw [e2] at hxj
    simp only [Option.map_some] at hxj
    injection hxj with hxj
    injection hxj with hxj
    injection hxj with _ hxj
    subst hxj
    have hc := World.var?_cell hg0 hv0 j
    rw [hc]
    have e3 := congrArg List.head? e1
    rw [List.head?_take, if_neg (by decide), List.head?_drop, Nat.mul_one, Array.getElem?_toList] at e3
    rw [e3]
    rfl

theorem c24 : Tryd.prog.cellsOf 24 = 4 := by kernel_rfl
theorem c22 : Tryd.prog.cellsOf 22 = 1 := by kernel_rfl

/-- An argument of type api.Set is four words. -/
theorem set_arg {H : Type} {enc : TypeId × Value → H} {W : World} {r : Reach} {sp : Nat → Bool} {hd : Bool} {v : Value} {d : DataW H} {p : List MemPlace}
    (k : Value.okWide Tryd.prog W r 0 24 v) (h : DataW.Trod enc Tryd.prog W 0 sp hd 24 v d p) : ∃ s : ST, v = val s ∧ s.Ok := by
  unfold Value.okWide at k
  rw [Tryd.underlying24] at k
  obtain ⟨cs, rfl, hsz, -⟩ := k
  rw [c24] at hsz
  obtain ⟨fuel, hf⟩ := h
  obtain ⟨l⟩ := cs
  match l, hsz with
  | [a0, a1, a2, a3], _ =>
    have hf' : DataW.trod enc Tryd.prog W 0 sp hd fuel 24 [a0, a1, a2, a3] = some (d, p) := hf
    obtain ⟨y0, y1, y2, y3, n, -, e0, e1, e2, e3⟩ := trod_array4 Tryd.underlying24 c22 hf'
    obtain ⟨n0, r0, -, w0⟩ := DataW.trod_int Tryd.underlying22 e0
    obtain ⟨n1, r1, -, w1⟩ := DataW.trod_int Tryd.underlying22 e1
    obtain ⟨n2, r2, -, w2⟩ := DataW.trod_int Tryd.underlying22 e2
    obtain ⟨n3, r3, -, w3⟩ := DataW.trod_int Tryd.underlying22 e3
    injection r0 with r0
    injection r1 with r1
    injection r2 with r2
    injection r3 with r3
    subst r0 r1 r2 r3
    have b0 := bounds_u64 w0
    have b1 := bounds_u64 w1
    have b2 := bounds_u64 w2
    have b3 := bounds_u64 w3
    refine ⟨⟨n0.toNat, n1.toNat, n2.toNat, n3.toNat⟩, ?_, ⟨?_, ?_, ?_, ?_⟩⟩
    · show _ = Value.agg #[.int .u64 (n0.toNat : Int), .int .u64 (n1.toNat : Int), .int .u64 (n2.toNat : Int), .int .u64 (n3.toNat : Int)]
      rw [Int.toNat_of_nonneg b0.1, Int.toNat_of_nonneg b1.1, Int.toNat_of_nonneg b2.1, Int.toNat_of_nonneg b3.1]
    · show n0.toNat < _
      omega
    · show n1.toNat < _
      omega
    · show n2.toNat < _
      omega
    · show n3.toNat < _
      omega

/-- An argument of type byte. -/
theorem byte_arg {H : Type} {enc : TypeId × Value → H} {W : World} {r : Reach} {sp : Nat → Bool} {hd : Bool} {v : Value} {d : DataW H} {p : List MemPlace}
    (k : Value.okWide Tryd.prog W r 0 5 v) (h : DataW.Trod enc Tryd.prog W 0 sp hd 5 v d p) : ∃ b : Nat, v = .int .u8 b ∧ b < 256 := by
  obtain ⟨n, rfl, _, _, wn⟩ := Go.ChangeShapes.open_int Tryd.underlying5 k h
  have b := bounds_u8 wn
  exact ⟨n.toNat, by rw [Int.toNat_of_nonneg b.1], by omega⟩
end Go.Proofs.YtdiegmejkipacaaDoor.Tied
