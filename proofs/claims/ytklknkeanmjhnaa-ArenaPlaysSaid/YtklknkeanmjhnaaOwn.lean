/- An arena of the caller's own, with its meter: what each call says of it. -/
import Derived.Test.YtklknkeanmjhnaaArenaFree
import Derived.Test.YtklknkeanmjhnaaArenaClean
namespace Go.Proofs.Ytklknkeanmjhnaa.Arena
open Go.RowKit Go.Proofs.Ytklknkeanmjhnaa.Base Go.Proofs.Ytklknkeanmjhnaa.Stretch Go.Proofs.Ytklknkeanmjhnaa.Regs Go.Proofs.Ytklknkeanmjhnaa.Row Go.Proofs.Ytklknkeanmjhnaa.Meter

/-- In w stands an arena, with its meter, in blocks that were not there in w0; nothing of w0 has turned. -/
def Own (w0 w : World) (b : Nat) (mp : Option Nat) (s : AS) (m : MS) : Prop :=
  (∃ F, Ar w b mp s F ∧ (∀ k, mp = some k → k ∉ F) ∧ ∀ k ∈ F, w0.heap.size ≤ k) ∧ MO w mp m ∧ (∀ k, mp = some k → w0.heap.size ≤ k ∧ k < w.heap.size) ∧ Keep (fun _ => False) w0 w

theorem Own.none {w0 w w' : World} {b : Nat} {mp : Option Nat} {s : AS} {m : MS} (h : Own w0 w b mp s m) (q : Keep (fun _ => False) w w') : Own w0 w' b mp s m := by
  obtain ⟨⟨F, h1, h2, h3⟩, h4, h5, h6⟩ := h
  exact ⟨⟨F, h1.none q, h2, h3⟩, h4.keep q (fun _ _ => id), fun k hk => ⟨(h5 k hk).1, Nat.lt_of_lt_of_le (h5 k hk).2 q.size⟩, h6.trans q⟩

theorem Own.did {w0 w w' : World} {b : Nat} {mp : Option Nat} {s' : AS} {m' : MS} {F : List Nat} {v : Value} {e : Ending} (h2 : ∀ k, mp = some k → k ∉ F) (h3 : ∀ k ∈ F, w0.heap.size ≤ k)
    (h5 : ∀ k, mp = some k → w0.heap.size ≤ k ∧ k < w.heap.size) (h6 : Keep (fun _ => False) w0 w) (d : Did w b mp F v s' m' e w') : e = .returned v ∧ Own w0 w' b mp s' m' := by
  obtain ⟨d1, d2, ⟨F', d3, d4⟩, d5⟩ := d
  refine ⟨d1, ⟨F', d3, fun k hk hk' => ?_, fun k hk => ?_⟩, d2, fun k hk => ⟨(h5 k hk).1, Nat.lt_of_lt_of_le (h5 k hk).2 d5.size⟩, h6.next d5 fun i hi hl => ?_⟩
  · rcases d4 k hk' with e | e
    · exact h2 k hk e
    · have := (h5 k hk).2; omega
  · rcases d4 k hk with e | e
    · exact h3 k e
    · exact Nat.le_trans h6.size e
  · rcases hi with e | e
    · have := h3 i e; omega
    · have := (h5 i e).1; omega

theorem own_alloc (w0 : World) (b : Nat) (mp : Option Nat) (s : AS) (m : MS) (n i e : Int) (s' : AS) (m' : MS) (w : World) (hv : allocV s mp m n = ((i, e), s', m')) (h : Own w0 w b mp s m) (hl : s.last < 4611686018427387904) :
    Calls Try.prog 19 #[Arena.ptr b, .int .i64 n] w fun x w' => x = .returned (.tuple #[.int .i64 i, .int .i64 e]) ∧ Own w0 w' b mp s' m' := by
  obtain ⟨⟨F, h1, h2, h3⟩, h4, h5, h6⟩ := h
  refine (alloc_any b mp s F m n w h1 h4 h2 hl).mono fun x w' d => ?_
  rw [hv] at d
  exact Own.did h2 h3 h5 h6 d

/-- What Free does: its answer, the arena and the meter behind it. -/
def freeV (s : AS) (mp : Option Nat) (m : MS) (id : Int) : Int × AS × MS := match Regs.look s.L id with
  | none => (7, s, m)
  | some r => (0, s.del r, giveO mp m r.n)

theorem free_any (b : Nat) (mp : Option Nat) (s : AS) (F : List Nat) (m : MS) (id : Int) (w : World) (h : Ar w b mp s F) (hm : MO w mp m) (hF : ∀ k, mp = some k → k ∉ F) (h1 : -9223372036854775808 ≤ id) (h2 : id ≤ 9223372036854775807) :
    Calls Try.prog 21 #[Arena.ptr b, .int .i64 id] w (Did w b mp F (.int .i64 (freeV s mp m id).1) (freeV s mp m id).2.1 (freeV s mp m id).2.2) := by
  unfold freeV
  cases e : Regs.look s.L id with
  | none =>
    refine (free_miss b mp s F id w h h1 h2 e).mono fun x w' hx => ?_
    exact ⟨hx.1, hm.keep hx.2 (fun _ _ => (fun h => h)), ⟨F, h.none hx.2, fun _ hk => .inl hk⟩, hx.2.mono fun _ h => h.elim⟩
  | some r => exact free_hit b mp s F m id r w h hm hF h1 h2 e

theorem own_free (w0 : World) (b : Nat) (mp : Option Nat) (s : AS) (m : MS) (id e : Int) (s' : AS) (m' : MS) (w : World) (hv : freeV s mp m id = (e, s', m')) (h : Own w0 w b mp s m) (i1 : -9223372036854775808 ≤ id) (i2 : id ≤ 9223372036854775807) :
    Calls Try.prog 21 #[Arena.ptr b, .int .i64 id] w fun x w' => x = .returned (.int .i64 e) ∧ Own w0 w' b mp s' m' := by
  obtain ⟨⟨F, h1, h2, h3⟩, h4, h5, h6⟩ := h
  refine (free_any b mp s F m id w h1 h4 h2 i1 i2).mono fun x w' d => ?_
  rw [hv] at d
  exact Own.did h2 h3 h5 h6 d

theorem own_set (w0 : World) (b : Nat) (mp : Option Nat) (s : AS) (m : MS) (id i v e : Int) (s' : AS) (w : World) (hv : (placeV s id i).2 = e) (hs : s.set id i v = s') (h : Own w0 w b mp s m) (i1 : -9223372036854775808 ≤ id) (i2 : id ≤ 9223372036854775807) :
    Calls Try.prog 24 #[Arena.ptr b, .int .i64 id, .int .i64 i, .int .i64 v] w fun x w' => x = .returned (.int .i64 e) ∧ Own w0 w' b mp s' m := by
  obtain ⟨⟨F, h1, h2, h3⟩, h4, h5, h6⟩ := h
  subst hv hs
  refine (set_any b mp s F id i v w h1 i1 i2).mono fun x w' d => ?_
  exact ⟨d.1, ⟨F, d.2.1, h2, h3⟩, h4.keep d.2.2 h2, fun k hk => ⟨(h5 k hk).1, Nat.lt_of_lt_of_le (h5 k hk).2 d.2.2.size⟩, h6.next d.2.2 fun i hi hl => by have := h3 i hi; omega⟩

theorem own_get (w0 : World) (b : Nat) (mp : Option Nat) (s : AS) (m : MS) (id i v e : Int) (w : World) (hv : getV s id i = (v, e)) (h : Own w0 w b mp s m) (i1 : -9223372036854775808 ≤ id) (i2 : id ≤ 9223372036854775807) :
    Calls Try.prog 25 #[Arena.ptr b, .int .i64 id, .int .i64 i] w fun x w' => x = .returned (.tuple #[.int .i64 v, .int .i64 e]) ∧ Own w0 w' b mp s m := by
  obtain ⟨F, h1, h2, h3⟩ := h.1
  refine (get_any b mp s F id i w h1 i1 i2).mono fun x w' d => ?_
  rw [hv] at d
  exact ⟨d.1, h.none d.2⟩

theorem own_len (w0 : World) (b : Nat) (mp : Option Nat) (s : AS) (m : MS) (id v : Int) (w : World) (hv : (match Regs.look s.L id with | some r => (r.n : Int) | none => -1) = v) (h : Own w0 w b mp s m) (i1 : -9223372036854775808 ≤ id) (i2 : id ≤ 9223372036854775807) :
    Calls Try.prog 30 #[Arena.ptr b, .int .i64 id] w fun x w' => x = .returned (.int .i64 v) ∧ Own w0 w' b mp s m := by
  obtain ⟨F, h1, h2, h3⟩ := h.1
  subst hv
  exact (len_any b mp s F id w h1 i1 i2).mono fun x w' d => ⟨d.1, h.none d.2⟩

theorem own_base (w0 : World) (b : Nat) (mp : Option Nat) (s : AS) (m : MS) (id v : Int) (w : World) (hv : (match Regs.look s.L id with | some r => (r.base : Int) | none => -1) = v) (h : Own w0 w b mp s m) (i1 : -9223372036854775808 ≤ id) (i2 : id ≤ 9223372036854775807) :
    Calls Try.prog 29 #[Arena.ptr b, .int .i64 id] w fun x w' => x = .returned (.int .i64 v) ∧ Own w0 w' b mp s m := by
  obtain ⟨F, h1, h2, h3⟩ := h.1
  subst hv
  exact (base_any b mp s F id w h1 i1 i2).mono fun x w' d => ⟨d.1, h.none d.2⟩

theorem own_left (w0 : World) (b : Nat) (mp : Option Nat) (s : AS) (m : MS) (v : Int) (w : World) (hv : (s.size - s.used : Int) = v) (h : Own w0 w b mp s m) :
    Calls Try.prog 27 #[Arena.ptr b] w fun x w' => x = .returned (.int .i64 v) ∧ w = w' := by
  obtain ⟨F, h1, h2, h3⟩ := h.1
  subst hv
  exact left_any b mp s F w h1

theorem own_clean (w0 : World) (b : Nat) (mp : Option Nat) (s : AS) (m : MS) (w : World) (h : Own w0 w b mp s m) :
    Calls Try.prog 28 #[Arena.ptr b] w fun x w' => x = .returned (.bool true) ∧ Own w0 w' b mp s m := by
  obtain ⟨F, h1, h2, h3⟩ := h.1
  exact (clean_any b mp s F w h1).mono fun x w' d => ⟨d.1, h.none d.2⟩

theorem own_new (w0 : World) (mp : Option Nat) (size : Int) (m : MS) (s : AS) (w : World) (hs : AS.new size = s) (h6 : Keep (fun _ => False) w0 w) (hm : MO w mp m) (h5 : ∀ k, mp = some k → w0.heap.size ≤ k ∧ k < w.heap.size) :
    Calls Try.prog 17 #[kid mp, .int .i64 size] w fun x w' => ∃ b, x = .returned (Arena.ptr b) ∧ Own w0 w' b mp s m := by
  subst hs
  refine (new_any mp size w).mono fun x w' d => ?_
  obtain ⟨b, F, d1, d2, d3, d4⟩ := d
  exact ⟨b, d1, ⟨F, d2, fun k hk hk' => by have := d3 k hk'; have := (h5 k hk).2; omega, fun k hk => Nat.le_trans h6.size (d3 k hk)⟩, hm.keep d4 (fun _ _ => id), fun k hk => ⟨(h5 k hk).1, Nat.lt_of_lt_of_le (h5 k hk).2 d4.size⟩, h6.trans d4⟩

end Go.Proofs.Ytklknkeanmjhnaa.Arena
