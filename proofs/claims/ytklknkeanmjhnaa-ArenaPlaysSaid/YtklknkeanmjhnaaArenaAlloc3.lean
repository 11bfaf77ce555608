/- Alloc of an arena, walked: each of its ways. -/
import Derived.Test.YtklknkeanmjhnaaArenaAlloc2
import Derived.Maps.Own
namespace Go.Proofs.Ytklknkeanmjhnaa.Arena
open Go.RowKit Go.Proofs.Ytklknkeanmjhnaa.Base Go.Proofs.Ytklknkeanmjhnaa.Stretch Go.Proofs.Ytklknkeanmjhnaa.Regs Go.Proofs.Ytklknkeanmjhnaa.Row Go.Proofs.Ytklknkeanmjhnaa.Meter

/-- What a call on an arena says: its answer, the arena and the meter behind it. -/
def Did (w : World) (b : Nat) (mp : Option Nat) (F : List Nat) (v : Value) (s' : AS) (m' : MS) (e : Ending) (w' : World) : Prop :=
  e = .returned v ∧ MO w' mp m' ∧ (∃ F', Ar w' b mp s' F' ∧ ∀ k ∈ F', k ∈ F ∨ w.heap.size ≤ k) ∧ Keep (fun k => k ∈ F ∨ mp = some k) w w'

theorem alloc_nil (n : Int) (w : World) : Calls Try.prog 19 #[.pointer none, .int .i64 n] w fun e w' => e = .returned (.tuple #[.int .i64 0, .int .i64 9]) ∧ w = w' := by
  go_enter Try.func19, Try.ntmps19
  go_wp2
  go_ret2
  exact ⟨rfl, rfl⟩

theorem alloc_low (b : Nat) (n : Int) (w : World) (hn : n < 1) : Calls Try.prog 19 #[Arena.ptr b, .int .i64 n] w fun e w' => e = .returned (.tuple #[.int .i64 0, .int .i64 1]) ∧ w = w' := by
  go_enter Try.func19, Try.ntmps19
  go_wp2
  go_ret2
  exact ⟨rfl, rfl⟩

theorem alloc_none (b : Nat) (mp : Option Nat) (s : AS) (t : TR) (cv : Value) (cn rb : Nat) (n : Int) (w : World) (hB : ArB w b mp s t cv cn rb) (h1 : 1 ≤ n) (hn : (t.mo : Int) < n) :
    Calls Try.prog 19 #[Arena.ptr b, .int .i64 n] w fun e w' => e = .returned (.tuple #[.int .i64 0, .int .i64 3]) ∧ w = w' := by
  have hf := first_none t b 2 n w hB.tr hn
  clear hB hn
  go_enter Try.func19, Try.ntmps19
  go_wp2_with (go_at_call 47; refine hf.mono ?_; rintro e w1 ⟨rfl, rfl⟩)
  go_ret2
  exact ⟨rfl, rfl⟩

theorem alloc_refused (b : Nat) (mp : Option Nat) (s : AS) (F : List Nat) (m : MS) (n : Nat) (w : World) (h : Ar w b mp s F) (hm : MO w mp m) (hF : ∀ k, mp = some k → k ∉ F) (h1 : 1 ≤ n) (x : Nat) (hx : s.fit n = some x) (hv : (takeO mp m n).1 = false) :
    Calls Try.prog 19 #[Arena.ptr b, .int .i64 n] w (Did w b mp F (.tuple #[.int .i64 0, .int .i64 3]) s (takeO mp m n).2) := by
  have hA := h
  obtain ⟨h0, t, cv, cn, rb, hB, -⟩ := h
  have hz := h0.sz
  have hmo : n ≤ t.mo := by
    rw [fit_tree hB.ok hB.sz hB.fr h1] at hx
    by_cases hc : n ≤ t.mo
    · exact hc
    · rw [if_neg hc] at hx
      cases hx
  have hn2 : n ≤ 1048576 := by have := (TR.inv hB.ok).2.2.1; have := hB.sz; omega
  have hf := first_some t b 2 n w hB.ok (by have := hB.sz; omega) hB.tr hmo
  have h1' : (1 : Int) ≤ n := by omega
  have ht : ∀ w1, Drawn w w1 → Calls Try.prog 48 #[Arena.ptr b, .int .i64 n] w1 fun e w' => e = .returned (.bool false) ∧ MO w' mp (takeO mp m n).2 ∧ Keep (fun k => mp = some k) w1 w' := fun w1 d => by
    have := take_any b mp s F m n w1 (hA.none (d.keep _)) (hm.keep (d.keep (fun _ => False)) (fun _ _ => id)) (by omega) (by omega)
    rwa [hv] at this
  have HT := Lib.hid ht
  clear ht hm hB h0 hx
  generalize t.first n = x' at *
  go_enter Try.func19, Try.ntmps19
  go_wp2_with fail
  refine hf.mono ?_
  rintro e w1 ⟨rfl, d1⟩
  have D1 := Lib.hid d1
  clear d1 hf
  go_wp2_with (go_at_call 48; refine (HT.out _ D1.out).mono ?_; rintro e w2 ⟨rfl, m2, q2⟩)
  go_ret2
  have q : Keep (fun k => mp = some k) w w2 := (D1.out.keep _).trans q2
  exact ⟨rfl, m2, ⟨F, hA.keep q (fun k hk e => hF k e hk), fun k hk => .inl hk⟩, q.mono fun _ e => .inr e⟩

end Go.Proofs.Ytklknkeanmjhnaa.Arena
