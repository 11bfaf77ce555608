/- An arena with a meter beside the document's own arena: what each call says. -/
import Derived.Test.YtklknkeanmjhnaaRef02d
import Derived.Test.YtklknkeanmjhnaaLaw02Kit
namespace Go.Proofs.Ytklknkeanmjhnaa.Law02
open Go.RowKit Go.Proofs.Ytklknkeanmjhnaa.Base Go.Proofs.Ytklknkeanmjhnaa.Arena Go.Proofs.Ytklknkeanmjhnaa.Stretch Go.Proofs.Ytklknkeanmjhnaa.Meter Go.Proofs.Ytklknkeanmjhnaa.Regs Go.Proofs.Ytklknkeanmjhnaa.Ref02

abbrev Aside := List (Nat × TypeId × Array Value)

structure Pw (W w : World) (X : Aside) (b mb c g : Nat) (s s2 : AS) (m : MS) (lv : Value) (q : Int) : Prop where
  o : One W w (fun k => k = c ∨ k = g ∨ lv.ownBlock = some k ∨ ∃ e ∈ X, k = e.1) b (some mb) s m
  r : RA w c g lv s2 q
  c1 : W.heap.size ≤ c
  g1 : W.heap.size ≤ g
  l1 : ∀ k, lv.ownBlock = some k → W.heap.size ≤ k
  x : ∀ e ∈ X, At w e.1 e.2.1 e.2.2 ∧ W.heap.size ≤ e.1 ∧ e.1 ≠ c ∧ e.1 ≠ g ∧ lv.ownBlock ≠ some e.1

section
variable {W w w' : World} {X : Aside} {b mb c g : Nat} {s s2 : AS} {m : MS} {lv : Value} {q : Int}

theorem Pw.b0 (h : Pw W w X b mb c g s s2 m lv q) : ∀ k, (k = c ∨ k = g ∨ lv.ownBlock = some k ∨ ∃ e ∈ X, k = e.1) → W.heap.size ≤ k := by
  rintro k (rfl | rfl | e | ⟨e, he, rfl⟩)
  · exact h.c1
  · exact h.g1
  · exact h.l1 k e
  · exact (h.x e he).2.1

theorem Pw.quiet (h : Pw W w X b mb c g s s2 m lv q) (k : Keep (fun _ => False) w w') : Pw W w' X b mb c g s s2 m lv q :=
  ⟨h.o.quiet k, h.r.quiet k, h.c1, h.g1, h.l1, fun e he => ⟨(h.x e he).1.keep k (fun h => h), (h.x e he).2⟩⟩

theorem Pw.at_ (h : Pw W w X b mb c g s s2 m lv q) {k : Nat} {t : TypeId} {vs : Array Value} (hx : (k, t, vs) ∈ X) : At w k t vs := (h.x _ hx).1

theorem Pw.mt (h : Pw W w X b mb c g s s2 m lv q) : At w mb 76 m.vals ∧ m.Ok := by
  obtain ⟨F, h1, h2, -⟩ := h.o
  exact h2

theorem Pw.less (h : Pw W w X b mb c g s s2 m lv q) : Pw W w [] b mb c g s s2 m lv q :=
  ⟨h.o.step (Keep.refl (fun _ => False) w) (fun _ h => h.elim) h.b0 (fun k hk => .inl (by
    rcases hk with e | e | e | ⟨e, he, -⟩
    · exact .inl e
    · exact .inr (.inl e)
    · exact .inr (.inr (.inl e))
    · simp at he)) (fun k hk => h.o.lt (by
    rcases hk with e | e | e | ⟨e, he, -⟩
    · exact .inl e
    · exact .inr (.inl e)
    · exact .inr (.inr (.inl e))
    · simp at he)), h.r, h.c1, h.g1, h.l1, fun _ he => (by simp at he)⟩

theorem Pw.more (h : Pw W w X b mb c g s s2 m lv q) (vs : Array Value) (t : TypeId) : Pw W (w.alloc (.cells vs t)) ((w.heap.size, t, vs) :: X) b mb c g s s2 m lv q := by
  have q : Keep (fun _ => False) w (w.alloc (.cells vs t)) := (Keep.refl _ w).alloc _
  have hz : (w.alloc (.cells vs t)).heap.size = w.heap.size + 1 := by simp
  have hk := h.o.keep.size
  have h1 := h.o.lt (k := c) (.inl rfl)
  have h2 := h.o.lt (k := g) (.inr (.inl rfl))
  have h3 := fun k e => h.o.lt (k := k) (.inr (.inr (.inl e)))
  refine ⟨h.o.step q (fun _ h => h.elim) h.b0 (fun k hk => ?_) (fun k hk => ?_), h.r.quiet q, h.c1, h.g1, h.l1, fun e he => ?_⟩
  · rcases hk with e | e | e | ⟨e, he, h4⟩
    · exact .inl (.inl e)
    · exact .inl (.inr (.inl e))
    · exact .inl (.inr (.inr (.inl e)))
    · rcases List.mem_cons.1 he with rfl | he
      · exact .inr (by simp only at h4; omega)
      · exact .inl (.inr (.inr (.inr ⟨e, he, h4⟩)))
  · rw [hz]
    rcases hk with e | e | e | ⟨e, he, h4⟩
    · omega
    · omega
    · have := h3 k e; omega
    · rcases List.mem_cons.1 he with rfl | he
      · simp only at h4; omega
      · have := h.o.lt (k := k) (.inr (.inr (.inr ⟨e, he, h4⟩))); omega
  · rcases List.mem_cons.1 he with rfl | he
    · exact ⟨At.new w vs t, hk, by simp only; omega, by simp only; omega, fun hc => by have := h3 _ hc; simp only at this; omega⟩
    · exact ⟨(h.x e he).1.keep q (fun h => h), (h.x e he).2⟩

/-- What the arena does. -/
theorem Pw.did {s' : AS} {m' : MS} (h : Pw W w X b mb c g s s2 m lv q) (o : One W w' (fun k => k = c ∨ k = g ∨ lv.ownBlock = some k ∨ ∃ e ∈ X, k = e.1) b (some mb) s' m') (k : Keep (fun k => ¬ (k = c ∨ k = g ∨ lv.ownBlock = some k ∨ ∃ e ∈ X, k = e.1)) w w') : Pw W w' X b mb c g s' s2 m' lv q :=
  ⟨o, h.r.keep k (fun hn => hn (.inl rfl)) (fun hn => hn (.inr (.inl rfl))) (fun _ hj hn => hn (.inr (.inr (.inl hj)))), h.c1, h.g1, h.l1, fun e he => ⟨(h.x e he).1.keep k (fun hn => hn (.inr (.inr (.inr ⟨e, he, rfl⟩)))), (h.x e he).2⟩⟩

/-- What the document's arena does. -/
theorem Pw.ref {s2' : AS} (h : Pw W w X b mb c g s s2 m lv q) (d : Did2 w c g lv s2' q w') : ∃ lv', Pw W w' X b mb c g s s2' m lv' q := by
  obtain ⟨lv', d1, d2, d3⟩ := d
  have hk := h.o.keep.size
  refine ⟨lv', ⟨h.o.step d3 ?_ h.b0 (fun k hk => ?_) (fun k hk => ?_), d1, h.c1, h.g1, fun k e => ?_, fun e he => ⟨(h.x e he).1.keep d3 ?_, (h.x e he).2.1, (h.x e he).2.2.1, (h.x e he).2.2.2.1, fun hc => ?_⟩⟩⟩
  · rintro k (e | e | e)
    · exact .inl e
    · exact .inr (.inl e)
    · exact .inr (.inr (.inl e))
  · rcases hk with e | e | e | e
    · exact .inl (.inl e)
    · exact .inl (.inr (.inl e))
    · rcases d2 k e with e | e
      · exact .inl (.inr (.inr (.inl e)))
      · exact .inr e
    · exact .inl (.inr (.inr (.inr e)))
  · rcases hk with e | e | e | e
    · exact Nat.lt_of_lt_of_le (h.o.lt (.inl e)) d3.size
    · exact Nat.lt_of_lt_of_le (h.o.lt (.inr (.inl e))) d3.size
    · exact d1.rl.lt e
    · exact Nat.lt_of_lt_of_le (h.o.lt (.inr (.inr (.inr e)))) d3.size
  · rcases d2 k e with e | e
    · exact h.l1 k e
    · omega
  · obtain ⟨-, -, x3, x4, x5⟩ := h.x e he
    rintro (e | e | e)
    · exact x3 e
    · exact x4 e
    · exact x5 e
  · obtain ⟨-, -, x3, x4, x5⟩ := h.x e he
    rcases d2 _ hc with e' | e'
    · exact x5 e'
    · have := h.o.lt (k := e.1) (.inr (.inr (.inr ⟨e, he, rfl⟩)))
      omega

theorem ra_as {s' : AS} (h : RA w c g lv s q) (h1 : s'.size = s.size) (h2 : s'.L = s.L) (h3 : s'.last = s.last) (h4 : ∀ p, p < s.size → s'.C p = s.C p) : RA w c g lv s' q := by
  obtain ⟨a1, a2, ⟨cc, a3, a4, a5⟩, a6, a7⟩ := h
  refine ⟨?_, by rw [h2]; exact a2, ⟨cc, a3, by omega, fun p hp => by rw [h4 p (by omega)]; exact a5 p (by omega)⟩, a6, a7⟩
  rw [h1, h3, show s'.used = s.used from by unfold AS.used; rw [h2]]
  exact a1

theorem Pw.as {s' : AS} (h : Pw W w X b mb c g s s2 m lv q) (h1 : s'.size = s2.size) (h2 : s'.L = s2.L) (h3 : s'.last = s2.last) (h4 : ∀ p, p < s2.size → s'.C p = s2.C p) : Pw W w X b mb c g s s' m lv q :=
  ⟨h.o, ra_as h.r h1 h2 h3 h4, h.c1, h.g1, h.l1, h.x⟩

/-- A cell is set. -/
theorem Pw.put (h : Pw W w X b mb c g s s2 m lv q) {p : Nat} (hp : p < s2.size) (v : Int) : Pw W (w.setCell ⟨g, p, none⟩ (.int .i64 v)) X b mb c g s { s2 with C := fun i => if i = p then v else s2.C i } m lv q := by
  have k : Keep (· = g) w (w.setCell ⟨g, p, none⟩ (.int .i64 v)) := (Keep.refl (· = g) w).setCell (fun _ => rfl) _
  obtain ⟨cc, a1, a2, a3⟩ := h.r.cr
  refine ⟨h.o.step k (fun _ e => .inr (.inl e)) h.b0 (fun _ hj => .inl hj) (fun _ hj => Nat.lt_of_lt_of_le (h.o.lt hj) k.size), ⟨h.r.at_.keep k h.r.bg, h.r.rl.keep k (fun j hj e => (h.r.ne j hj).2 e), ⟨_, a1.set p (.int .i64 v), by simpa using a2, fun i hi => ?_⟩, h.r.bg, h.r.ne⟩, h.c1, h.g1, h.l1, fun e he => ⟨(h.x e he).1.keep k (h.x e he).2.2.2.1, (h.x e he).2⟩⟩
  by_cases e : p = i
  · subst e
    rw [Array.getElem?_setIfInBounds_self_of_lt (by omega)]
    simp
  · rw [Array.getElem?_setIfInBounds_ne e]
    simp only
    rw [if_neg (fun h => e h.symm)]
    exact a3 i hi

theorem alloc_inv (n : Int) (hu : m.used = s.used) : (allocV s (some mb) m n).2.2.used = ((allocV s (some mb) m n).2.1.used : Int) ∧ (allocV s (some mb) m n).2.2.cells = m.cells := by
  unfold allocV takeO MS.take MS.note
  by_cases h1 : n < 1
  · simp [h1, hu]
  · simp only [if_neg h1]
    cases s.fit n.toNat with
    | none => exact ⟨hu, rfl⟩
    | some x =>
      have h0 : ¬ n < 0 := by omega
      have h2 := AS.add_used s x n.toNat
      by_cases h3 : m.cells - m.used < n
      · by_cases h4 : m.err = 0 <;> simp [h0, h3, h4] <;> omega
      · simp [h0, h3]
        omega

theorem give_inv {n : Nat} (hn : (n : Int) ≤ m.used) : (giveO (some mb) m n).used = m.used - n ∧ (giveO (some mb) m n).cells = m.cells := by
  unfold giveO MS.give
  simp only
  rw [if_neg (by omega)]
  exact ⟨rfl, rfl⟩

theorem free_inv (ho : s.Ok) (id : Int) (hu : m.used = s.used) : (freeV s (some mb) m id).2.2.used = ((freeV s (some mb) m id).2.1.used : Int) ∧ (freeV s (some mb) m id).2.2.cells = m.cells := by
  unfold freeV
  cases h : Regs.look s.L id with
  | none => exact ⟨hu, rfl⟩
  | some r =>
    have h1 := AS.del_used ho (look_mem h).1
    have h2 := give_inv (mb := mb) (m := m) (n := r.n) (by omega)
    simp only
    exact ⟨by rw [h2.1]; omega, h2.2⟩

theorem wipe_inv : ∀ (L : List Reg) (m : MS), m.used = ((L.map (·.n)).sum : Nat) → (giveAll (some mb) m L).used = 0 ∧ (giveAll (some mb) m L).cells = m.cells := by
  intro L
  induction L with
  | nil => intro m h; exact ⟨by simp only [giveAll, List.foldl_nil]; simpa using h, rfl⟩
  | cons r L ih =>
    intro m h
    simp only [List.map_cons, List.sum_cons] at h
    have h2 := give_inv (mb := mb) (m := m) (n := r.n) (by omega)
    have h3 := ih (giveO (some mb) m r.n) (by rw [h2.1]; omega)
    unfold giveAll at *
    simp only [List.foldl_cons]
    exact ⟨h3.1, h3.2.trans h2.2⟩

end

section
variable {W : World} {X : Aside}

theorem pw_alloc (b mb c g : Nat) (s s2 : AS) (m : MS) (lv : Value) (q n : Int) (w : World) (h : Pw W w X b mb c g s s2 m lv q) (hl : s.last < 4611686018427387904) :
    Calls Try.prog 19 #[Arena.ptr b, .int .i64 n] w fun x w' => x = .returned (.tuple #[.int .i64 (allocV s (some mb) m n).1.1, .int .i64 (allocV s (some mb) m n).1.2]) ∧ Pw W w' X b mb c g (allocV s (some mb) m n).2.1 s2 (allocV s (some mb) m n).2.2 lv q :=
  (one_alloc b (some mb) s m n w h.o hl).mono fun _ _ r => ⟨r.1, h.did r.2.1 r.2.2⟩

theorem pw_ref_alloc (b mb c g : Nat) (s s2 : AS) (m m0 : MS) (lv : Value) (q n : Int) (w : World) (h : Pw W w X b mb c g s s2 m lv q) (ho : s2.Ok) (hu : m0.used = s2.used) (hq : m0.cells = q) (q0 : 0 ≤ q) (q1 : q ≤ 1048576) (n1 : -9223372036854775808 ≤ n) (n2 : n ≤ 9223372036854775807) (hla : s2.last ≤ 1000000) :
    Calls Try.prog 20 #[Arena.ptr c, .int .i64 n] w fun x w' => x = .returned (.tuple #[.int .i64 (allocV s2 (some mb) m0 n).1.1, .int .i64 (allocV s2 (some mb) m0 n).1.2]) ∧ ∃ lv', Pw W w' X b mb c g s (allocV s2 (some mb) m0 n).2.1 m lv' q := by
  subst hq
  obtain ⟨e1, e2⟩ := refAlloc_eq s2 mb m0 n hu
  rw [e1, e2]
  exact (alloc_ref c g lv s2 _ n w h.r ho q0 q1 n1 n2 hla).mono fun _ _ r => ⟨r.1, h.ref r.2⟩

theorem pw_free (b mb c g : Nat) (s s2 : AS) (m : MS) (lv : Value) (q id v : Int) (hv : (freeV s (some mb) m id).1 = v) (w : World) (h : Pw W w X b mb c g s s2 m lv q) (i1 : -9223372036854775808 ≤ id) (i2 : id ≤ 9223372036854775807) :
    Calls Try.prog 21 #[Arena.ptr b, .int .i64 id] w fun x w' => x = .returned (.int .i64 v) ∧ Pw W w' X b mb c g (freeV s (some mb) m id).2.1 s2 (freeV s (some mb) m id).2.2 lv q := by
  subst hv
  exact (one_free b (some mb) s m id w h.o i1 i2).mono fun _ _ r => ⟨r.1, h.did r.2.1 r.2.2⟩

theorem pw_ref_free (b mb c g : Nat) (s s2 : AS) (m m0 : MS) (lv : Value) (q id v : Int) (hv : (freeV s2 (some mb) m0 id).1 = v) (w : World) (h : Pw W w X b mb c g s s2 m lv q) (ho : s2.Ok) :
    Calls Try.prog 22 #[Arena.ptr c, .int .i64 id] w fun x w' => x = .returned (.int .i64 v) ∧ ∃ lv', Pw W w' X b mb c g s (freeV s2 (some mb) m0 id).2.1 m lv' q := by
  subst hv
  unfold freeV
  cases e : Regs.look s2.L id with
  | none => exact (free_ref_none c g lv s2 q id w h.r ho e).mono fun _ _ r => ⟨r.1, lv, by obtain ⟨-, rfl⟩ := r; exact h⟩
  | some r => exact (free_ref_some c g lv s2 q id r w h.r ho e).mono fun _ _ d => ⟨d.1, h.ref d.2⟩

theorem pw_at (b mb c g : Nat) (s s2 : AS) (m : MS) (lv : Value) (q id i : Int) (w : World) (h : Pw W w X b mb c g s s2 m lv q) (ho : s2.Ok) (i1 : -9223372036854775808 ≤ i) (i2 : i ≤ 9223372036854775807) :
    Calls Try.prog 23 #[Arena.ptr c, .int .i64 id, .int .i64 i] w fun x w' => x = .returned (.tuple #[.int .i64 (placeV s2 id i).1, .int .i64 (placeV s2 id i).2]) ∧ w = w' :=
  at_any c g lv s2 q id i w h.r ho i1 i2

theorem pw_set (b mb c g : Nat) (s s2 : AS) (m : MS) (lv : Value) (q id i v : Int) (w : World) (h : Pw W w X b mb c g s s2 m lv q) (i1 : -9223372036854775808 ≤ id) (i2 : id ≤ 9223372036854775807) :
    Calls Try.prog 24 #[Arena.ptr b, .int .i64 id, .int .i64 i, .int .i64 v] w fun x w' => x = .returned (.int .i64 (placeV s id i).2) ∧ Pw W w' X b mb c g (s.set id i v) s2 m lv q :=
  (Arena.one_set b (some mb) s m id i v w h.o i1 i2).mono fun _ _ r => ⟨r.1, h.did r.2.1 r.2.2⟩

theorem pw_get (b mb c g : Nat) (s s2 : AS) (m : MS) (lv : Value) (q id i : Int) (w : World) (h : Pw W w X b mb c g s s2 m lv q) (i1 : -9223372036854775808 ≤ id) (i2 : id ≤ 9223372036854775807) :
    Calls Try.prog 25 #[Arena.ptr b, .int .i64 id, .int .i64 i] w fun x w' => x = .returned (.tuple #[.int .i64 (getV s id i).1, .int .i64 (getV s id i).2]) ∧ Pw W w' X b mb c g s s2 m lv q :=
  (one_get b (some mb) s m id i w h.o i1 i2).mono fun _ _ r => ⟨r.1, h.quiet r.2.2⟩

theorem pw_wipe (b mb c g : Nat) (s s2 : AS) (m : MS) (lv : Value) (q : Int) (w : World) (h : Pw W w X b mb c g s s2 m lv q) :
    Calls Try.prog 26 #[Arena.ptr b] w fun x w' => x = .returned (.tuple #[]) ∧ Pw W w' X b mb c g s.wipe s2 (giveAll (some mb) m s.L) lv q :=
  (one_wipe b (some mb) s m w h.o).mono fun _ _ r => ⟨r.1, h.did r.2.1 r.2.2⟩

theorem pw_left (b mb c g : Nat) (s s2 : AS) (m : MS) (lv : Value) (q : Int) (w : World) (h : Pw W w X b mb c g s s2 m lv q) :
    Calls Try.prog 27 #[Arena.ptr b] w fun x w' => x = .returned (.int .i64 (s.size - s.used : Int)) ∧ w = w' := one_left b (some mb) s m w h.o

theorem pw_clean (b mb c g : Nat) (s s2 : AS) (m : MS) (lv : Value) (q : Int) (w : World) (h : Pw W w X b mb c g s s2 m lv q) :
    Calls Try.prog 28 #[Arena.ptr b] w fun x w' => x = .returned (.bool true) ∧ Pw W w' X b mb c g s s2 m lv q :=
  (one_clean b (some mb) s m w h.o).mono fun _ _ r => ⟨r.1, h.quiet r.2.2⟩

theorem pw_base (b mb c g : Nat) (s s2 : AS) (m : MS) (lv : Value) (q : Int) (r : Reg) (hr : r ∈ s.L) (w : World) (h : Pw W w X b mb c g s s2 m lv q) :
    Calls Try.prog 29 #[Arena.ptr b, .int .i64 r.id] w fun x w' => x = .returned (.int .i64 r.base) ∧ Pw W w' X b mb c g s s2 m lv q := by
  have h1 := h.o.ok.idr r hr
  have h2 := h.o.ok.la
  have := one_base b (some mb) s m r.id w h.o (by omega) (by omega)
  rw [look_self h.o.ok.ids hr] at this
  exact this.mono fun _ _ r => ⟨r.1, h.quiet r.2.2⟩

theorem pw_len (b mb c g : Nat) (s s2 : AS) (m : MS) (lv : Value) (q : Int) (r : Reg) (hr : r ∈ s.L) (w : World) (h : Pw W w X b mb c g s s2 m lv q) :
    Calls Try.prog 30 #[Arena.ptr b, .int .i64 r.id] w fun x w' => x = .returned (.int .i64 r.n) ∧ Pw W w' X b mb c g s s2 m lv q := by
  have h1 := h.o.ok.idr r hr
  have h2 := h.o.ok.la
  have := one_len b (some mb) s m r.id w h.o (by omega) (by omega)
  rw [look_self h.o.ok.ids hr] at this
  exact this.mono fun _ _ r => ⟨r.1, h.quiet r.2.2⟩

/-- Both are made. -/
theorem Pw.made {w0 w1 : World} {b mb g : Nat} {size : Int} {m : MS} (ho : One W w0 (fun _ => False) b (some mb) (AS.new size) m) (hg : w0.heap.size ≤ g)
    (hc : ∃ cc : Array Value, At w1 g 3 cc ∧ cc.size = (AS.new size).size ∧ ∀ p, p < (AS.new size).size → cc[p]? = some (.int .i64 0)) (k : Keep (fun _ => False) w0 w1) :
    Pw W (w1.alloc (.cells #[.int .i64 (AS.new size).size, .slice none 0 0, .slice (some ⟨g, 0, none⟩) (AS.new size).size (AS.new size).size, .int .i64 0, .int .i64 0, .int .i64 m.cells] 34)) [] b mb w1.heap.size g (AS.new size) (AS.new size) m (.slice none 0 0) m.cells := by
  obtain ⟨cc, a1, a2, a3⟩ := hc
  have hs := ho.keep.size
  have hgl := a1.lt
  have ks := k.size
  have k2 : Keep (fun _ => False) w1 (w1.alloc (.cells #[.int .i64 (AS.new size).size, .slice none 0 0, .slice (some ⟨g, 0, none⟩) (AS.new size).size (AS.new size).size, .int .i64 0, .int .i64 0, .int .i64 m.cells] 34)) := (Keep.refl _ w1).alloc _
  have hz : (w1.alloc (.cells #[.int .i64 (AS.new size).size, .slice none 0 0, .slice (some ⟨g, 0, none⟩) (AS.new size).size (AS.new size).size, .int .i64 0, .int .i64 0, .int .i64 m.cells] 34)).heap.size = w1.heap.size + 1 := by simp
  refine ⟨ho.step (k.trans k2) (fun _ h => h) (fun _ h => h.elim) (fun j hj => .inr ?_) (fun j hj => ?_), ⟨At.new w1 _ _, RL.nil _, ⟨cc, a1.keep k2 (fun h => h), a2, a3⟩, by omega, fun _ hj => (by cases hj)⟩, by omega, by omega, fun _ hj => (by cases hj), fun _ he => (by simp at he)⟩
  · rcases hj with e | e | e | ⟨e, he, -⟩
    · omega
    · omega
    · cases e
    · simp at he
  · rw [hz]
    rcases hj with e | e | e | ⟨e, he, -⟩
    · omega
    · omega
    · cases e
    · simp at he

end
end Go.Proofs.Ytklknkeanmjhnaa.Law02
