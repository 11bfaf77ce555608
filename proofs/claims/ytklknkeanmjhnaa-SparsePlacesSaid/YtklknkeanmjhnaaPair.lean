/- Two sets of the caller's own, apart from one another, and some blocks beside them: what each call on one of them says. -/
import Derived.Test.YtklknkeanmjhnaaLaw03Awake
import Derived.Test.YtklknkeanmjhnaaOpRows
namespace Go.Proofs.Ytklknkeanmjhnaa.Law03
open Go.RowKit Go.Proofs.Ytklknkeanmjhnaa.Base Go.Proofs.Ytklknkeanmjhnaa.Lists Go.Proofs.Ytklknkeanmjhnaa.Sparse Go.Proofs.Ytklknkeanmjhnaa.Meter Go.Proofs.Ytklknkeanmjhnaa.Ref03

theorem Drawn.r0 (w : World) : Drawn w w := ⟨0, rfl⟩
theorem Drawn.r1 (w : World) : Drawn w w.drew := ⟨1, rfl⟩
theorem Drawn.r2 (w : World) : Drawn w w.drew.drew := ⟨2, rfl⟩
theorem Drawn.r3 (w : World) : Drawn w w.drew.drew.drew := ⟨3, rfl⟩
theorem Drawn.r4 (w : World) : Drawn w w.drew.drew.drew.drew := ⟨4, rfl⟩

/-- Blocks beside the sets: each with its cells. -/
abbrev Beside : Type := List (Nat × TypeId × Array Value)

structure Two (w0 w : World) (X : Beside) (b g c d n : Nat) (L M : List Nat) : Prop where
  o1 : Ow w0 b g n L w
  o2 : Ow w0 c d n M w
  ap : b ≠ c ∧ b ≠ d ∧ g ≠ c ∧ g ≠ d
  x : ∀ e ∈ X, At w e.1 e.2.1 e.2.2 ∧ e.1 ≠ b ∧ e.1 ≠ g ∧ e.1 ≠ c ∧ e.1 ≠ d

theorem Two.swap {w0 w : World} {X : Beside} {b g c d n : Nat} {L M : List Nat} (h : Two w0 w X b g c d n L M) : Two w0 w X c d b g n M L :=
  ⟨h.o2, h.o1, by have := h.ap; omega, fun e he => ⟨(h.x e he).1, (h.x e he).2.2.2.1, (h.x e he).2.2.2.2, (h.x e he).2.1, (h.x e he).2.2.1⟩⟩

theorem Two.noneK {w0 w w' : World} {X : Beside} {b g c d n : Nat} {L M : List Nat} (h : Two w0 w X b g c d n L M) (q : Keep (fun _ => False) w w') : Two w0 w' X b g c d n L M :=
  ⟨h.o1.quiet q, h.o2.quiet q, h.ap, fun e he => ⟨(h.x e he).1.keep q id, (h.x e he).2⟩⟩

theorem Two.less {w0 w : World} {X : Beside} {b g c d n : Nat} {L M : List Nat} (h : Two w0 w X b g c d n L M) : Two w0 w [] b g c d n L M :=
  ⟨h.o1, h.o2, h.ap, fun e he => by simp at he⟩

theorem Two.more {w0 w : World} {X : Beside} {b g c d n : Nat} {L M : List Nat} (h : Two w0 w X b g c d n L M) (vs : Array Value) (t : TypeId) : Two w0 (w.alloc (.cells vs t)) ((w.heap.size, t, vs) :: X) b g c d n L M := by
  have q : Keep (fun _ => False) w (w.alloc (.cells vs t)) := (Keep.refl _ w).alloc _
  have h1 := h.o1.b1
  have h2 := h.o1.g1
  have h3 := h.o2.b1
  have h4 := h.o2.g1
  refine ⟨h.o1.quiet q, h.o2.quiet q, h.ap, fun e he => ?_⟩
  rcases List.mem_cons.1 he with rfl | he
  · exact ⟨At.new w vs t, by simp only; omega, by simp only; omega, by simp only; omega, by simp only; omega⟩
  · exact ⟨(h.x e he).1.keep q id, (h.x e he).2⟩

theorem Two.at_ {w0 w : World} {X : Beside} {b g c d n : Nat} {L M : List Nat} (h : Two w0 w X b g c d n L M) {k : Nat} {t : TypeId} {vs : Array Value} (hx : (k, t, vs) ∈ X) : At w k t vs := (h.x _ hx).1

theorem Two.keep {w0 w : World} {X : Beside} {b g c d n : Nat} {L M : List Nat} (h : Two w0 w X b g c d n L M) : Keep (fun _ => False) w0 w := h.o1.q

/-- A call on the first one. -/
theorem Two.did {w0 w w' : World} {X : Beside} {b g c d n : Nat} {L L' M : List Nat} (h : Two w0 w X b g c d n L M) (o : Ow w0 b g n L' w') (q : Keep (fun i => i = b ∨ i = g) w w') : Two w0 w' X b g c d n L' M :=
  ⟨o, h.o2.step q (by have := h.ap; omega) (by have := h.ap; omega) (fun i hi => by have := h.o1.hb; have := h.o1.hg; omega), h.ap,
    fun e he => ⟨(h.x e he).1.keep q (by have := (h.x e he).2; omega), (h.x e he).2⟩⟩

theorem two_add {w0 : World} {X : Beside} (b g c d n : Nat) (L M : List Nat) (x : Int) (w : World) (h : Two w0 w X b g c d n L M) :
    Calls Try.prog 34 #[ptr b, .int .i64 x] w fun e w' => e = .returned (.bool (addV n L x).2) ∧ Two w0 w' X b g c d n (addV n L x).1 M :=
  (own_add x _ _ rfl h.o1).mono fun _ _ r => ⟨r.1, h.did r.2.1 r.2.2⟩

theorem two_clear {w0 : World} {X : Beside} (b g c d n : Nat) (L M : List Nat) (w : World) (h : Two w0 w X b g c d n L M) :
    Calls Try.prog 35 #[ptr b] w fun e w' => e = .returned (.tuple #[]) ∧ Two w0 w' X b g c d n [] M :=
  (own_clear h.o1).mono fun _ _ r => ⟨r.1, h.did r.2.1 r.2.2⟩

theorem two_list {w0 : World} {X : Beside} (b g c d n : Nat) (L M : List Nat) (w : World) (h : Two w0 w X b g c d n L M) :
    Calls Try.prog 40 #[ptr b] w fun e w' => ∃ v, e = .returned v ∧ IL w' v (ints L) ∧ Keep (fun _ => False) w w' ∧ Two w0 w' X b g c d n L M :=
  (own_list h.o1).mono fun _ _ r => by
    obtain ⟨v, rfl, h1, h2⟩ := r
    exact ⟨v, rfl, h1.il, h2, h.noneK h2⟩

theorem two_sorted {w0 : World} {X : Beside} (b g c d n : Nat) (L M : List Nat) (w : World) (h : Two w0 w X b g c d n L M) :
    Calls Try.prog 41 #[ptr b] w fun e w' => ∃ v, e = .returned v ∧ IL w' v (sortI (ints L)) ∧ Keep (fun _ => False) w w' ∧ Two w0 w' X b g c d n L M :=
  (own_sorted h.o1).mono fun _ _ r => by
    obtain ⟨v, rfl, h1, h2⟩ := r
    exact ⟨v, rfl, h1.il, h2, h.noneK h2⟩

theorem two_has {w0 : World} {X : Beside} (b g c d n : Nat) (L M : List Nat) (x : Int) (v : Bool) (hv : hasV L x = v) (w : World) (h : Two w0 w X b g c d n L M) :
    Calls Try.prog 36 #[ptr b, .int .i64 x] w fun e w' => e = .returned (.bool v) ∧ w = w' := own_has x v hv h.o1

theorem two_len {w0 : World} {X : Beside} (b g c d n : Nat) (L M : List Nat) (w : World) (h : Two w0 w X b g c d n L M) :
    Calls Try.prog 38 #[ptr b] w fun e w' => e = .returned (.int .i64 L.length) ∧ w = w' := own_len _ rfl h.o1

theorem two_at {w0 : World} {X : Beside} (b g c d n : Nat) (L M : List Nat) (i k : Int) (hk : atV L i = k) (w : World) (h : Two w0 w X b g c d n L M) :
    Calls Try.prog 43 #[ptr b, .int .i64 i] w fun e w' => e = .returned (.int .i64 k) ∧ w = w' := own_at i k hk h.o1

/-- Two new ones. -/
theorem Two.made {w0 w1 w2 w3 : World} {n : Nat} {e1 e2 : Ending} (q : Keep (fun _ => False) w0 w1) (h1 : NewSet n w1 e1 w2 ∧ Keep (fun _ => False) w1 w2) (h2 : NewSet n w2 e2 w3 ∧ Keep (fun _ => False) w2 w3) :
    ∃ b g c d, e1 = .returned (.tuple #[ptr b, .int .i64 0]) ∧ e2 = .returned (.tuple #[ptr c, .int .i64 0]) ∧ Two w0 w3 [] b g c d n [] [] := by
  obtain ⟨⟨b, g, rfl, x1, x2, x3, x4, x5, x6⟩, q1⟩ := h1
  obtain ⟨⟨c, d, rfl, y1, y2, y3, y4, y5, y6⟩, q2⟩ := h2
  have z0 := q.size
  have z1 := q1.size
  have z2 := q2.size
  refine ⟨b, g, c, d, rfl, rfl, ⟨x6.keep q2 id id, by omega, by omega, by omega, by omega, q.trans (q1.trans q2)⟩, ⟨y6, by omega, by omega, by omega, by omega, q.trans (q1.trans q2)⟩, by omega, fun e he => by simp at he⟩

theorem same_self {va vb : Value} {w : World} (A : List Int) (ha : IL w va A) (hb : IL w vb A) (hl : A.length ≤ 2097152) :
    Calls Try.prog 39 #[va, vb] w fun e w' => e = .returned (.bool true) ∧ Keep (fun _ => False) w w' := same_is true (by simp) ha hb hl

theorem len_of {L : List Nat} {n b g : Nat} {w : World} (h : St w b g n L) : (ints L).length ≤ 65536 := by
  have := h.len_le
  have := h.most
  simp [ints]
  omega

set_option maxRecDepth 100000 in
/-- An argument of calls, opened: each is two ints, in the caller's memory. -/
theorem ops_arg {H : Type} {enc : TypeId × Value → H} {v : Value} {d : DataW H} {p : List MemPlace} {W : World}
    (k : Value.okWide Try.prog W .any 0 57 v) (h : DataW.Trod enc Try.prog W 0 (fun _ => true) true 57 v d p) :
    ∃ (la : Option Addr) (len cap bl off : Nat), v = .slice la len cap ∧ len ≤ 9223372036854775807 ∧ (0 < len → la = some ⟨bl, off, none⟩ ∧ bl < W.heap.size) ∧
      ∀ i j, i < len → j < 2 → ∃ q : Int, W.cell? ⟨bl, off + (i * 2 + j), none⟩ = some (.int .i64 q) ∧ -9223372036854775808 ≤ q ∧ q ≤ 9223372036854775807 := by
  obtain ⟨la, len, cap, rfl, hlen, hrows⟩ := rows_arg Try.underlying57 Try.underlying62 (by kernel_rfl) (by kernel_rfl) (fun j f hj => by
    match j, hj with
    | 0, hj => cases hj; exact Try.underlying3
    | 1, hj => cases hj; exact Try.underlying3
    | j + 2, hj => simp at hj) (by simp) k h
  rcases hrows with h0 | ⟨bl, off, rfl, hbl, hr⟩
  · exact ⟨la, len, cap, 0, 0, rfl, hlen, fun h => by omega, fun i j hi => by omega⟩
  · exact ⟨_, len, cap, bl, off, rfl, hlen, fun _ => ⟨rfl, hbl⟩, fun i j hi hj => ⟨_, hr i j hi hj⟩⟩

end Go.Proofs.Ytklknkeanmjhnaa.Law03
