/- An arena of the caller's own, with or without a meter, beside blocks of the caller's that it leaves alone: what each call says. -/
import Derived.Test.YtklknkeanmjhnaaOwn
import Derived.Test.YtklknkeanmjhnaaArenaWipe
namespace Go.Proofs.Ytklknkeanmjhnaa.Arena
open Go.RowKit Go.Proofs.Ytklknkeanmjhnaa.Base Go.Proofs.Ytklknkeanmjhnaa.Stretch Go.Proofs.Ytklknkeanmjhnaa.Regs Go.Proofs.Ytklknkeanmjhnaa.Row Go.Proofs.Ytklknkeanmjhnaa.Meter

/-- The arena s at block b, with its meter; the blocks of B are the caller's own; nothing of w0 has turned. -/
def One (w0 w : World) (B : Nat → Prop) (b : Nat) (mp : Option Nat) (s : AS) (m : MS) : Prop :=
  ∃ F, Ar w b mp s F ∧ MO w mp m ∧ (∀ k, mp = some k → k ∉ F ∧ w0.heap.size ≤ k ∧ k < w.heap.size ∧ ¬ B k) ∧ (∀ k ∈ F, w0.heap.size ≤ k) ∧ (∀ k, B k → k ∉ F ∧ k < w.heap.size) ∧ Keep (fun _ => False) w0 w

theorem One.ok {w0 w : World} {B : Nat → Prop} {b : Nat} {mp : Option Nat} {s : AS} {m : MS} (h : One w0 w B b mp s m) : s.Ok := by
  obtain ⟨F, h1, -⟩ := h
  exact h1.1

theorem One.keep {w0 w : World} {B : Nat → Prop} {b : Nat} {mp : Option Nat} {s : AS} {m : MS} (h : One w0 w B b mp s m) : Keep (fun _ => False) w0 w := by
  obtain ⟨F, h1, h2, h3, h4, h5, h6⟩ := h
  exact h6

theorem One.lt {w0 w : World} {B : Nat → Prop} {b : Nat} {mp : Option Nat} {s : AS} {m : MS} (h : One w0 w B b mp s m) {k : Nat} (hk : B k) : k < w.heap.size := by
  obtain ⟨F, h1, h2, h3, h4, h5, h6⟩ := h
  exact (h5 k hk).2

/-- The caller turns blocks of its own, and lays new ones. -/
theorem One.step {S B B' : Nat → Prop} {w0 w w' : World} {b : Nat} {mp : Option Nat} {s : AS} {m : MS} (h : One w0 w B b mp s m) (q : Keep S w w') (hS : ∀ k, S k → B k) (h0 : ∀ k, B k → w0.heap.size ≤ k) (hB : ∀ k, B' k → B k ∨ w.heap.size ≤ k) (hl : ∀ k, B' k → k < w'.heap.size) : One w0 w' B' b mp s m := by
  obtain ⟨F, h1, h2, h3, h4, h5, h6⟩ := h
  have hlt := h1.lt
  refine ⟨F, h1.keep q (fun k hk hs => (h5 k (hS k hs)).1 hk), h2.keep q (fun k hk hs => (h3 k hk).2.2.2 (hS k hs)), fun k hk => ?_, h4, fun k hk => ⟨fun hf => ?_, hl k hk⟩, h6.next q (fun i hi hlt => by have := h0 i (hS i hi); omega)⟩
  · obtain ⟨a1, a2, a3, a4⟩ := h3 k hk
    exact ⟨a1, a2, Nat.lt_of_lt_of_le a3 q.size, fun hb => (hB k hb).elim a4 (fun h => by omega)⟩
  · rcases hB k hk with h | h
    · exact (h5 k h).1 hf
    · have := hlt k hf
      omega

theorem One.quiet {B : Nat → Prop} {w0 w w' : World} {b : Nat} {mp : Option Nat} {s : AS} {m : MS} (h : One w0 w B b mp s m) (q : Keep (fun _ => False) w w') : One w0 w' B b mp s m := by
  obtain ⟨F, h1, h2, h3, h4, h5, h6⟩ := h
  exact ⟨F, h1.none q, h2.keep q (fun _ _ => id), fun k hk => ⟨(h3 k hk).1, (h3 k hk).2.1, Nat.lt_of_lt_of_le (h3 k hk).2.2.1 q.size, (h3 k hk).2.2.2⟩, h4, fun k hk => ⟨(h5 k hk).1, Nat.lt_of_lt_of_le (h5 k hk).2 q.size⟩, h6.trans q⟩

theorem One.did {B : Nat → Prop} {w0 w w' : World} {b : Nat} {mp : Option Nat} {s' : AS} {m' : MS} {F : List Nat} {v : Value} {e : Ending} (h3 : ∀ k, mp = some k → k ∉ F ∧ w0.heap.size ≤ k ∧ k < w.heap.size ∧ ¬ B k) (h4 : ∀ k ∈ F, w0.heap.size ≤ k) (h5 : ∀ k, B k → k ∉ F ∧ k < w.heap.size) (h6 : Keep (fun _ => False) w0 w)
    (d : Did w b mp F v s' m' e w') : e = .returned v ∧ One w0 w' B b mp s' m' ∧ Keep (fun k => ¬ B k) w w' := by
  obtain ⟨d1, d2, ⟨F', d3, d4⟩, d5⟩ := d
  refine ⟨d1, ⟨F', d3, d2, fun k hk => ?_, fun k hk => ?_, fun k hk => ⟨fun hf => ?_, Nat.lt_of_lt_of_le (h5 k hk).2 d5.size⟩, h6.next d5 fun i hi hl => ?_⟩, d5.mono fun i hi hb => ?_⟩
  · obtain ⟨a1, a2, a3, a4⟩ := h3 k hk
    exact ⟨fun hf => (d4 k hf).elim a1 (fun h => by omega), a2, Nat.lt_of_lt_of_le a3 d5.size, a4⟩
  · rcases d4 k hk with e | e
    · exact h4 k e
    · exact Nat.le_trans h6.size e
  · rcases d4 k hf with e | e
    · exact (h5 k hk).1 e
    · have := (h5 k hk).2; omega
  · rcases hi with e | e
    · have := h4 i e; omega
    · have := (h3 i e).2.1; omega
  · rcases hi with e | e
    · exact (h5 i hb).1 e
    · exact (h3 i e).2.2.2 hb

section
variable {w0 : World} {B : Nat → Prop}

theorem one_alloc (b : Nat) (mp : Option Nat) (s : AS) (m : MS) (n : Int) (w : World) (h : One w0 w B b mp s m) (hl : s.last < 4611686018427387904) :
    Calls Try.prog 19 #[Arena.ptr b, .int .i64 n] w fun x w' => x = .returned (.tuple #[.int .i64 (allocV s mp m n).1.1, .int .i64 (allocV s mp m n).1.2]) ∧ One w0 w' B b mp (allocV s mp m n).2.1 (allocV s mp m n).2.2 ∧ Keep (fun k => ¬ B k) w w' := by
  obtain ⟨F, h1, h2, h3, h4, h5, h6⟩ := h
  exact (alloc_any b mp s F m n w h1 h2 (fun k hk => (h3 k hk).1) hl).mono fun x w' d => One.did h3 h4 h5 h6 d

theorem one_free (b : Nat) (mp : Option Nat) (s : AS) (m : MS) (id : Int) (w : World) (h : One w0 w B b mp s m) (i1 : -9223372036854775808 ≤ id) (i2 : id ≤ 9223372036854775807) :
    Calls Try.prog 21 #[Arena.ptr b, .int .i64 id] w fun x w' => x = .returned (.int .i64 (freeV s mp m id).1) ∧ One w0 w' B b mp (freeV s mp m id).2.1 (freeV s mp m id).2.2 ∧ Keep (fun k => ¬ B k) w w' := by
  obtain ⟨F, h1, h2, h3, h4, h5, h6⟩ := h
  exact (free_any b mp s F m id w h1 h2 (fun k hk => (h3 k hk).1) i1 i2).mono fun x w' d => One.did h3 h4 h5 h6 d

theorem one_wipe (b : Nat) (mp : Option Nat) (s : AS) (m : MS) (w : World) (h : One w0 w B b mp s m) :
    Calls Try.prog 26 #[Arena.ptr b] w fun x w' => x = .returned (.tuple #[]) ∧ One w0 w' B b mp s.wipe (giveAll mp m s.L) ∧ Keep (fun k => ¬ B k) w w' := by
  obtain ⟨F, h1, h2, h3, h4, h5, h6⟩ := h
  exact (wipe_any b mp s F m w h1 h2 (fun k hk => (h3 k hk).1)).mono fun x w' d => One.did h3 h4 h5 h6 d

theorem one_set (b : Nat) (mp : Option Nat) (s : AS) (m : MS) (id i v : Int) (w : World) (h : One w0 w B b mp s m) (i1 : -9223372036854775808 ≤ id) (i2 : id ≤ 9223372036854775807) :
    Calls Try.prog 24 #[Arena.ptr b, .int .i64 id, .int .i64 i, .int .i64 v] w fun x w' => x = .returned (.int .i64 (placeV s id i).2) ∧ One w0 w' B b mp (s.set id i v) m ∧ Keep (fun k => ¬ B k) w w' := by
  obtain ⟨F, h1, h2, h3, h4, h5, h6⟩ := h
  exact (set_any b mp s F id i v w h1 i1 i2).mono fun x w' d => One.did h3 h4 h5 h6 ⟨d.1, h2.keep d.2.2 (fun k hk => (h3 k hk).1), ⟨F, d.2.1, fun k hk => .inl hk⟩, d.2.2.mono fun _ h => .inl h⟩

theorem one_get (b : Nat) (mp : Option Nat) (s : AS) (m : MS) (id i : Int) (w : World) (h : One w0 w B b mp s m) (i1 : -9223372036854775808 ≤ id) (i2 : id ≤ 9223372036854775807) :
    Calls Try.prog 25 #[Arena.ptr b, .int .i64 id, .int .i64 i] w fun x w' => x = .returned (.tuple #[.int .i64 (getV s id i).1, .int .i64 (getV s id i).2]) ∧ One w0 w' B b mp s m ∧ Keep (fun _ => False) w w' := by
  have h7 := h
  obtain ⟨F, h1, -⟩ := h7
  exact (get_any b mp s F id i w h1 i1 i2).mono fun x w' d => ⟨d.1, h.quiet d.2, d.2⟩

theorem one_len (b : Nat) (mp : Option Nat) (s : AS) (m : MS) (id : Int) (w : World) (h : One w0 w B b mp s m) (i1 : -9223372036854775808 ≤ id) (i2 : id ≤ 9223372036854775807) :
    Calls Try.prog 30 #[Arena.ptr b, .int .i64 id] w fun x w' => x = .returned (.int .i64 (match Regs.look s.L id with | some r => (r.n : Int) | none => -1)) ∧ One w0 w' B b mp s m ∧ Keep (fun _ => False) w w' := by
  have h7 := h
  obtain ⟨F, h1, -⟩ := h7
  exact (len_any b mp s F id w h1 i1 i2).mono fun x w' d => ⟨d.1, h.quiet d.2, d.2⟩

theorem one_base (b : Nat) (mp : Option Nat) (s : AS) (m : MS) (id : Int) (w : World) (h : One w0 w B b mp s m) (i1 : -9223372036854775808 ≤ id) (i2 : id ≤ 9223372036854775807) :
    Calls Try.prog 29 #[Arena.ptr b, .int .i64 id] w fun x w' => x = .returned (.int .i64 (match Regs.look s.L id with | some r => (r.base : Int) | none => -1)) ∧ One w0 w' B b mp s m ∧ Keep (fun _ => False) w w' := by
  have h7 := h
  obtain ⟨F, h1, -⟩ := h7
  exact (base_any b mp s F id w h1 i1 i2).mono fun x w' d => ⟨d.1, h.quiet d.2, d.2⟩

theorem one_left (b : Nat) (mp : Option Nat) (s : AS) (m : MS) (w : World) (h : One w0 w B b mp s m) :
    Calls Try.prog 27 #[Arena.ptr b] w fun x w' => x = .returned (.int .i64 (s.size - s.used : Int)) ∧ w = w' := by
  obtain ⟨F, h1, -⟩ := h
  exact left_any b mp s F w h1

theorem one_clean (b : Nat) (mp : Option Nat) (s : AS) (m : MS) (w : World) (h : One w0 w B b mp s m) :
    Calls Try.prog 28 #[Arena.ptr b] w fun x w' => x = .returned (.bool true) ∧ One w0 w' B b mp s m ∧ Keep (fun _ => False) w w' := by
  have h7 := h
  obtain ⟨F, h1, -⟩ := h7
  exact (clean_any b mp s F w h1).mono fun x w' d => ⟨d.1, h.quiet d.2, d.2⟩

theorem one_new (mp : Option Nat) (size : Int) (m : MS) (w : World) (h6 : Keep (fun _ => False) w0 w) (hm : MO w mp m) (h5 : ∀ k, mp = some k → w0.heap.size ≤ k ∧ k < w.heap.size) :
    Calls Try.prog 17 #[kid mp, .int .i64 size] w fun x w' => ∃ b, x = .returned (Arena.ptr b) ∧ One w0 w' (fun _ => False) b mp (AS.new size) m ∧ Keep (fun _ => False) w w' := by
  refine (new_any mp size w).mono fun x w' d => ?_
  obtain ⟨b, F, d1, d2, d3, d4⟩ := d
  exact ⟨b, d1, ⟨F, d2, hm.keep d4 (fun _ _ => id), fun k hk => ⟨fun hk' => (by have := d3 k hk'; have := (h5 k hk).2; omega), (h5 k hk).1, Nat.lt_of_lt_of_le (h5 k hk).2 d4.size, fun h => h⟩, fun k hk => Nat.le_trans h6.size (d3 k hk), fun k hk => hk.elim, h6.trans d4⟩, d4⟩
end

end Go.Proofs.Ytklknkeanmjhnaa.Arena
