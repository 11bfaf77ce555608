/- Alloc in one word; New of an arena. -/
import Derived.Test.YtklknkeanmjhnaaArenaAlloc4
namespace Go.Proofs.Ytklknkeanmjhnaa.Arena
open Go.RowKit Go.Proofs.Ytklknkeanmjhnaa.Base Go.Proofs.Ytklknkeanmjhnaa.Stretch Go.Proofs.Ytklknkeanmjhnaa.Regs Go.Proofs.Ytklknkeanmjhnaa.Row Go.Proofs.Ytklknkeanmjhnaa.Meter

/-- What Alloc does: its answer, the arena and the meter behind it. -/
def allocV (s : AS) (mp : Option Nat) (m : MS) (n : Int) : (Int × Int) × AS × MS :=
  if n < 1 then ((0, 1), s, m) else match s.fit n.toNat with
    | none => ((0, 3), s, m)
    | some x => if (takeO mp m n).1 then ((s.last + 1, 0), s.add x n.toNat, (takeO mp m n).2) else ((0, 3), s, (takeO mp m n).2)

theorem Did.same {w : World} {b : Nat} {mp : Option Nat} {s : AS} {F : List Nat} {m : MS} (h : Ar w b mp s F) (hm : MO w mp m) {v : Value} {e : Ending} (he : e = .returned v) : Did w b mp F v s m e w :=
  ⟨he, hm, ⟨F, h, fun _ hk => .inl hk⟩, Keep.refl _ w⟩

theorem alloc_any (b : Nat) (mp : Option Nat) (s : AS) (F : List Nat) (m : MS) (n : Int) (w : World) (h : Ar w b mp s F) (hm : MO w mp m) (hF : ∀ k, mp = some k → k ∉ F) (hl : s.last < 4611686018427387904) :
    Calls Try.prog 19 #[Arena.ptr b, .int .i64 n] w (Did w b mp F (.tuple #[.int .i64 (allocV s mp m n).1.1, .int .i64 (allocV s mp m n).1.2]) (allocV s mp m n).2.1 (allocV s mp m n).2.2) := by
  unfold allocV
  by_cases h1 : n < 1
  · rw [if_pos h1]
    refine (alloc_low b n w h1).mono ?_
    rintro e w' ⟨he, rfl⟩
    exact Did.same h hm he
  · rw [if_neg h1]
    obtain ⟨k, rfl⟩ : ∃ k : Nat, n = k := ⟨n.toNat, by omega⟩
    have hk : 1 ≤ k := by omega
    rw [Int.toNat_natCast]
    cases hx : s.fit k with
    | none =>
      obtain ⟨h0, t, cv, cn, rb, hB, hFe⟩ := id h
      refine (alloc_none b mp s t cv cn rb k w hB (by omega) ?_).mono ?_
      · rw [fit_tree hB.ok hB.sz hB.fr hk] at hx
        by_cases hc : k ≤ t.mo
        · rw [if_pos hc] at hx
          cases hx
        · omega
      · rintro e w' ⟨he, rfl⟩
        exact Did.same h hm he
    | some x =>
      simp only
      cases hv : (takeO mp m k).1 with
      | false => exact alloc_refused b mp s F m k w h hm hF hk x hx hv
      | true => exact alloc_given b mp s F m k w h hm hF hk hl x hx hv

/-- How many places there are. -/
def clipN (size : Int) : Nat := (min (max size 0) 1048576).toNat

def AS.new (size : Int) : AS := ⟨clipN size, [], 0, fun _ => 0⟩

theorem AS.new_ok (size : Int) : (AS.new size).Ok :=
  ⟨by simp only [AS.new, clipN]; omega, by simp [AS.new], by simp [AS.new], by simp [AS.new], by simp [AS.new], by simp [AS.new], fun _ _ => rfl⟩

/-- What New says: a new arena, in blocks of its own. -/
def Fresh (w : World) (mp : Option Nat) (s : AS) (e : Ending) (w' : World) : Prop :=
  ∃ b F, e = .returned (Arena.ptr b) ∧ Ar w' b mp s F ∧ (∀ k ∈ F, w.heap.size ≤ k) ∧ Keep (fun _ => False) w w'

theorem new_made (mp : Option Nat) (n : Nat) (hn : n ≤ 1048576) (w : World) :
    Ar (((w.alloc (.cells (plain n n) 79)).alloc (.map #[] 0)).alloc (.cells #[kid mp, .slice none 0 0, .int .i64 n, .int .i64 n, .int .i64 n, .int .i64 n, .pointer none, .pointer none, .int .i64 n, .int .i64 0, .map (some (w.heap.size + 1))] 83))
      (w.heap.size + 2) mp ⟨n, [], 0, fun _ => 0⟩ [w.heap.size + 2, w.heap.size + 1] := by
  have a1 := At.new ((w.alloc (.cells (plain n n) 79)).alloc (.map #[] 0)) #[kid mp, .slice none 0 0, .int .i64 n, .int .i64 n, .int .i64 n, .int .i64 n, .pointer none, .pointer none, .int .i64 n, .int .i64 0, .map (some (w.heap.size + 1))] 83
  have r1 := RM.new (w.alloc (.cells (plain n n) 79))
  rw [show ((w.alloc (.cells (plain n n) 79)).alloc (.map #[] 0)).heap.size = w.heap.size + 2 from by simp] at a1
  rw [show (w.alloc (.cells (plain n n) 79)).heap.size = w.heap.size + 1 from by simp] at r1
  refine ⟨⟨hn, by simp, by simp, by simp, by simp, by simp, fun _ _ => rfl⟩, .leaf n true, .slice none 0 0, 0, w.heap.size + 1, ⟨?_, ⟨_, _, a1, rfl, rfl, rfl, rfl, rfl, rfl⟩, trivial, rfl, fun p => ?_, Row.nil _ _, Nat.zero_le _, fun _ _ => rfl, by simp, r1.keep (S := fun _ => False) ((Keep.refl _ _).alloc _) id, by simp [TR.fp, Value.ownBlock]⟩, by simp [TR.fp, Value.ownBlock]⟩
  · rw [show (((⟨n, [], 0, fun _ => 0⟩ : AS).size : Int) - ((⟨n, [], 0, fun _ => 0⟩ : AS).used : Int)) = n from by simp [AS.used]]
    exact a1
  · simp [TR.free, AS.fr]

theorem new_low (mp : Option Nat) (size : Int) (h : size < 0) (w : World) : Calls Try.prog 17 #[kid mp, .int .i64 size] w (Fresh w mp ⟨0, [], 0, fun _ => 0⟩) := by
  have hN := new_made mp 0 (by omega) w
  have hf := new_w 0 w
  simp only [plain, Int.natCast_zero, kid] at hf hN ⊢
  have hN := Lib.hid hN
  have hmm := @run_makeMap Try.prog
  go_enter Try.func17, Try.ntmps17
  go_wp2_with (go_at_call 46; refine hf.mono ?_; clear hf; rintro e w1 ⟨rfl, rfl⟩)
  go_ret
  exact ⟨_, _, rfl, hN.out, by simp only [List.mem_cons, List.not_mem_nil, or_false]; omega, (((Keep.refl _ w).alloc _).alloc _).alloc _⟩

theorem new_high (mp : Option Nat) (size : Int) (h : 1048576 < size) (w : World) : Calls Try.prog 17 #[kid mp, .int .i64 size] w (Fresh w mp ⟨1048576, [], 0, fun _ => 0⟩) := by
  have hN := new_made mp 1048576 (by omega) w
  have hf := new_w 1048576 w
  simp only [plain, Int.cast_ofNat_Int, kid] at hf hN ⊢
  have hN := Lib.hid hN
  have hmm := @run_makeMap Try.prog
  go_enter Try.func17, Try.ntmps17
  go_wp2_with (go_at_call 46; refine hf.mono ?_; clear hf; rintro e w1 ⟨rfl, rfl⟩)
  go_ret
  exact ⟨_, _, rfl, hN.out, by simp only [List.mem_cons, List.not_mem_nil, or_false]; omega, (((Keep.refl _ w).alloc _).alloc _).alloc _⟩

theorem new_mid (mp : Option Nat) (n : Nat) (h : n ≤ 1048576) (w : World) : Calls Try.prog 17 #[kid mp, .int .i64 n] w (Fresh w mp ⟨n, [], 0, fun _ => 0⟩) := by
  have hN := new_made mp n h w
  have hf := new_w n w
  simp only [plain, kid] at hf hN ⊢
  have hN := Lib.hid hN
  have hmm := @run_makeMap Try.prog
  go_enter Try.func17, Try.ntmps17
  go_wp2_with (go_at_call 46; refine hf.mono ?_; clear hf; rintro e w1 ⟨rfl, rfl⟩)
  go_ret
  exact ⟨_, _, rfl, hN.out, by simp only [List.mem_cons, List.not_mem_nil, or_false]; omega, (((Keep.refl _ w).alloc _).alloc _).alloc _⟩

theorem new_any (mp : Option Nat) (size : Int) (w : World) : Calls Try.prog 17 #[kid mp, .int .i64 size] w (Fresh w mp (AS.new size)) := by
  unfold AS.new
  by_cases h1 : size < 0
  · rw [show clipN size = 0 from by simp only [clipN]; omega]
    exact new_low mp size h1 w
  · by_cases h2 : 1048576 < size
    · rw [show clipN size = 1048576 from by simp only [clipN]; omega]
      exact new_high mp size h2 w
    · obtain ⟨n, rfl⟩ : ∃ n : Nat, size = n := ⟨size.toNat, by omega⟩
      rw [show clipN (n : Int) = n from by simp only [clipN]; omega]
      exact new_mid mp n (by omega) w

end Go.Proofs.Ytklknkeanmjhnaa.Arena
