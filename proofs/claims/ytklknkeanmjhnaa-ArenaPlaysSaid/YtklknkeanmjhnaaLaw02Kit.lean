/- What the laws of layer 2 share: 'long', and an argument that is a list of operations. -/
import Derived.Test.YtklknkeanmjhnaaOne
import Derived.Test.YtklknkeanmjhnaaOpRows
import Derived.Test.YtklknkeanmjhnaaLaw02Awake
namespace Go.Proofs.Ytklknkeanmjhnaa.Law02
open Go.RowKit Go.Proofs.Ytklknkeanmjhnaa.Base Go.Proofs.Ytklknkeanmjhnaa.Arena Go.Proofs.Ytklknkeanmjhnaa.Stretch Go.Proofs.Ytklknkeanmjhnaa.Meter Go.Proofs.Ytklknkeanmjhnaa.Regs

theorem long_any (size : Int) (a : Option Addr) (len cap : Nat) (w : World) (hl : len ≤ 9223372036854775807) :
    Calls Try.prog 14 #[.int .i64 size, .slice a len cap] w fun e w' => e = .returned (.bool (decide (300 < size) || decide (200 < len))) ∧ w = w' := by
  by_cases h : 300 < size
  · rw [show (decide (300 < size) || decide (200 < len)) = true from by simp [h]]
    go_enter Try.func14, Try.ntmps14
    go_wp2
    go_ret
    exact ⟨rfl, rfl⟩
  · by_cases h2 : 200 < len
    · have h2' : (200 : Int) < len := by omega
      rw [show (decide (300 < size) || decide (200 < len)) = true from by simp [h2]]
      go_enter Try.func14, Try.ntmps14
      go_wp2
      go_ret
      exact ⟨by simp, rfl⟩
    · have h2' : ¬ (200 : Int) < len := by omega
      rw [show (decide (300 < size) || decide (200 < len)) = false from by simp [h, h2]]
      go_enter Try.func14, Try.ntmps14
      go_wp2
      go_ret
      exact ⟨by simp, rfl⟩

set_option maxRecDepth 100000 in
/-- A list of operations, read: four numbers each. -/
theorem ops_arg {H : Type} {enc : TypeId × Value → H} {W : World} {v : Value} {d : DataW H} {p : List MemPlace}
    (k : Value.okWide Try.prog W .any 0 22 v) (h : DataW.Trod enc Try.prog W 0 (fun _ => true) true 22 v d p) :
    ∃ (a : Option Addr) (len cap bl off : Nat), v = .slice a len cap ∧ len ≤ 9223372036854775807 ∧ (0 < len → a = some ⟨bl, off, none⟩ ∧ bl < W.heap.size) ∧
      ∀ i j, i < len → j < 4 → ∃ q : Int, W.cell? ⟨bl, off + (i * 4 + j), none⟩ = some (.int .i64 q) ∧ -9223372036854775808 ≤ q ∧ q ≤ 9223372036854775807 := by
  obtain ⟨a, len, cap, rfl, hlen, hrows⟩ := rows_arg Try.underlying22 Try.underlying37 (by kernel_rfl) (by kernel_rfl) (fun j f hj => by
    match j, hj with
    | 0, hj => cases hj; exact Try.underlying3
    | 1, hj => cases hj; exact Try.underlying3
    | 2, hj => cases hj; exact Try.underlying3
    | 3, hj => cases hj; exact Try.underlying3
    | j + 4, hj => simp at hj) (by simp) k h
  rcases hrows with h0 | ⟨bl, off, rfl, hbl, hr⟩
  · exact ⟨a, len, cap, 0, 0, rfl, hlen, fun h => by omega, fun i j hi => by omega⟩
  · exact ⟨_, len, cap, bl, off, rfl, hlen, fun _ => ⟨rfl, hbl⟩, fun i j hi hj => ⟨_, hr i j hi hj⟩⟩

/-- The meter that stands for none. -/
def mm : MS := ⟨0, 0, 0, 0, 0, 0⟩

theorem alloc_size (s : AS) (mp : Option Nat) (m : MS) (n : Int) : (allocV s mp m n).2.1.size = s.size := by
  unfold allocV
  split
  · rfl
  · split
    · rfl
    · split <;> rfl

theorem free_size (s : AS) (mp : Option Nat) (m : MS) (id : Int) : (freeV s mp m id).2.1.size = s.size := by
  unfold freeV
  split <;> rfl

theorem alloc_last (s : AS) (mp : Option Nat) (m : MS) (n : Int) : (allocV s mp m n).2.1.last ≤ s.last + 1 := by
  unfold allocV
  split
  · simp
  · split
    · simp
    · split
      · simp [AS.add]
      · simp

theorem free_last (s : AS) (mp : Option Nat) (m : MS) (id : Int) : (freeV s mp m id).2.1.last = s.last := by
  unfold freeV
  split <;> rfl

theorem set_last (s : AS) (id i v : Int) : (s.set id i v).last = s.last := by
  unfold AS.set
  split <;> rfl

theorem set_size (s : AS) (id i v : Int) : (s.set id i v).size = s.size := by
  unfold AS.set
  split <;> rfl

/-- Alloc hands out a new number, and a region more, or says why not, and the arena is as it was. -/
theorem alloc_cases (s : AS) (mp : Option Nat) (m : MS) (n : Int) :
    (∃ x, (allocV s mp m n).1 = (((s.last : Int) + 1), 0) ∧ (allocV s mp m n).2.1 = s.add x n.toNat ∧ 1 ≤ n ∧ s.fit n.toNat = some x) ∨ ((allocV s mp m n).1.1 = 0 ∧ (allocV s mp m n).1.2 ≠ 0 ∧ (allocV s mp m n).2.1 = s) := by
  unfold allocV
  split
  · exact .inr ⟨rfl, by simp, rfl⟩
  · split
    · exact .inr ⟨rfl, by simp, rfl⟩
    · rename_i x hx
      split
      · exact .inl ⟨x, rfl, rfl, by omega, hx⟩
      · exact .inr ⟨rfl, by simp, rfl⟩

end Go.Proofs.Ytklknkeanmjhnaa.Law02
