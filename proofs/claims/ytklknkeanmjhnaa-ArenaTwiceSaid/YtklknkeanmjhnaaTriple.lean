/- Three arenas without a meter, apart from one another, and some blocks beside them: what each call on one of them says. -/
import Derived.Test.YtklknkeanmjhnaaOwn
namespace Go.Proofs.Ytklknkeanmjhnaa.Arena
open Go.RowKit Go.Proofs.Ytklknkeanmjhnaa.Base Go.Proofs.Ytklknkeanmjhnaa.Stretch Go.Proofs.Ytklknkeanmjhnaa.Regs Go.Proofs.Ytklknkeanmjhnaa.Row Go.Proofs.Ytklknkeanmjhnaa.Meter

/-- Blocks beside the arenas: each with its cells. -/
abbrev Beside : Type := List (Nat × TypeId × Array Value)

/-- Three arenas, apart; beside them the blocks X; nothing of w0 has turned. -/
def Tri (w0 w : World) (X : Beside) (a b c : Nat) (sa sb sc : AS) : Prop :=
  ∃ Fa Fb Fc, Ar w a none sa Fa ∧ Ar w b none sb Fb ∧ Ar w c none sc Fc ∧ (∀ k ∈ Fa, k ∉ Fb ∧ k ∉ Fc) ∧ (∀ k ∈ Fb, k ∉ Fc) ∧ (∀ k, k ∈ Fa ∨ k ∈ Fb ∨ k ∈ Fc → w0.heap.size ≤ k) ∧
    (∀ e ∈ X, At w e.1 e.2.1 e.2.2 ∧ e.1 ∉ Fa ∧ e.1 ∉ Fb ∧ e.1 ∉ Fc) ∧ Keep (fun _ => False) w0 w

theorem Tri.rot {w0 w : World} {X : Beside} {a b c : Nat} {sa sb sc : AS} (h : Tri w0 w X a b c sa sb sc) : Tri w0 w X b c a sb sc sa := by
  obtain ⟨Fa, Fb, Fc, h1, h2, h3, h4, h5, h6, h7, h8⟩ := h
  exact ⟨Fb, Fc, Fa, h2, h3, h1, fun k hk => ⟨h5 k hk, fun ha => (h4 k ha).1 hk⟩, fun k hk ha => (h4 k ha).2 hk, fun k hk => h6 k (by rcases hk with e | e | e; exact .inr (.inl e); exact .inr (.inr e); exact .inl e),
    fun e he => ⟨(h7 e he).1, (h7 e he).2.2.1, (h7 e he).2.2.2, (h7 e he).2.1⟩, h8⟩

theorem Tri.noneK {w0 w w' : World} {X : Beside} {a b c : Nat} {sa sb sc : AS} (h : Tri w0 w X a b c sa sb sc) (q : Keep (fun _ => False) w w') : Tri w0 w' X a b c sa sb sc := by
  obtain ⟨Fa, Fb, Fc, h1, h2, h3, h4, h5, h6, h7, h8⟩ := h
  exact ⟨Fa, Fb, Fc, h1.none q, h2.none q, h3.none q, h4, h5, h6, fun e he => ⟨(h7 e he).1.keep q id, (h7 e he).2⟩, h8.trans q⟩

theorem Tri.less {w0 w : World} {X : Beside} {a b c : Nat} {sa sb sc : AS} (h : Tri w0 w X a b c sa sb sc) : Tri w0 w [] a b c sa sb sc := by
  obtain ⟨Fa, Fb, Fc, h1, h2, h3, h4, h5, h6, h7, h8⟩ := h
  exact ⟨Fa, Fb, Fc, h1, h2, h3, h4, h5, h6, fun e he => by simp at he, h8⟩

/-- A new block beside them. -/
theorem Tri.more {w0 w : World} {X : Beside} {a b c : Nat} {sa sb sc : AS} (h : Tri w0 w X a b c sa sb sc) (vs : Array Value) (t : TypeId) : Tri w0 (w.alloc (.cells vs t)) ((w.heap.size, t, vs) :: X) a b c sa sb sc := by
  have q : Keep (fun _ => False) w (w.alloc (.cells vs t)) := (Keep.refl _ w).alloc _
  obtain ⟨Fa, Fb, Fc, h1, h2, h3, h4, h5, h6, h7, h8⟩ := h
  refine ⟨Fa, Fb, Fc, h1.none q, h2.none q, h3.none q, h4, h5, h6, fun e he => ?_, h8.trans q⟩
  rcases List.mem_cons.1 he with rfl | he
  · exact ⟨At.new w vs t, fun hk => by have := h1.lt _ hk; simp at this, fun hk => by have := h2.lt _ hk; simp at this, fun hk => by have := h3.lt _ hk; simp at this⟩
  · exact ⟨(h7 e he).1.keep q id, (h7 e he).2⟩

theorem Tri.at_ {w0 w : World} {X : Beside} {a b c : Nat} {sa sb sc : AS} (h : Tri w0 w X a b c sa sb sc) {k : Nat} {t : TypeId} {vs : Array Value} (hx : (k, t, vs) ∈ X) : At w k t vs := by
  obtain ⟨Fa, Fb, Fc, h1, h2, h3, h4, h5, h6, h7, h8⟩ := h
  exact (h7 _ hx).1

theorem Tri.keep {w0 w : World} {X : Beside} {a b c : Nat} {sa sb sc : AS} (h : Tri w0 w X a b c sa sb sc) : Keep (fun _ => False) w0 w := by
  obtain ⟨Fa, Fb, Fc, h1, h2, h3, h4, h5, h6, h7, h8⟩ := h
  exact h8

/-- A call on the first one. -/
theorem Tri.did {w0 w w' : World} {X : Beside} {a b c : Nat} {sb sc sa' : AS} {Fa Fb Fc : List Nat} (h2 : Ar w b none sb Fb) (h3 : Ar w c none sc Fc) (h4 : ∀ k ∈ Fa, k ∉ Fb ∧ k ∉ Fc) (h5 : ∀ k ∈ Fb, k ∉ Fc)
    (h6 : ∀ k, k ∈ Fa ∨ k ∈ Fb ∨ k ∈ Fc → w0.heap.size ≤ k) (h7 : ∀ e ∈ X, At w e.1 e.2.1 e.2.2 ∧ e.1 ∉ Fa ∧ e.1 ∉ Fb ∧ e.1 ∉ Fc) (h8 : Keep (fun _ => False) w0 w)
    (d1 : ∃ F', Ar w' a none sa' F' ∧ ∀ k ∈ F', k ∈ Fa ∨ w.heap.size ≤ k) (d2 : Keep (· ∈ Fa) w w') : Tri w0 w' X a b c sa' sb sc := by
  obtain ⟨F', e1, e2⟩ := d1
  have l2 := h2.lt
  have l3 := h3.lt
  refine ⟨F', Fb, Fc, e1, h2.keep d2 (fun k hk ha => (h4 k ha).1 hk), h3.keep d2 (fun k hk ha => (h4 k ha).2 hk), fun k hk => ?_, h5, fun k hk => ?_, fun e he => ?_, h8.next d2 fun i hi hl => by have := h6 i (.inl hi); omega⟩
  · rcases e2 k hk with e | e
    · exact h4 k e
    · exact ⟨fun hb => by have := l2 k hb; omega, fun hc => by have := l3 k hc; omega⟩
  · rcases hk with e | e
    · rcases e2 k e with e | e
      · exact h6 k (.inl e)
      · exact Nat.le_trans h8.size e
    · exact h6 k (.inr e)
  · obtain ⟨g1, g2, g3, g4⟩ := h7 e he
    refine ⟨g1.keep d2 g2, fun hk => ?_, g3, g4⟩
    rcases e2 _ hk with e' | e'
    · exact g2 e'
    · have := g1.lt; omega

def mm : MS := ⟨0, 0, 0, 0, 0, 0⟩

theorem tri_alloc {w0 : World} {X : Beside} (a b c : Nat) (sa sb sc : AS) (n : Int) (w : World) (h : Tri w0 w X a b c sa sb sc) (hl : sa.last < 4611686018427387904) :
    Calls Try.prog 19 #[Arena.ptr a, .int .i64 n] w fun x w' => x = .returned (.tuple #[.int .i64 (allocV sa none mm n).1.1, .int .i64 (allocV sa none mm n).1.2]) ∧ Tri w0 w' X a b c (allocV sa none mm n).2.1 sb sc := by
  obtain ⟨Fa, Fb, Fc, h1, h2, h3, h4, h5, h6, h7, h8⟩ := h
  exact (alloc_any a none sa Fa mm n w h1 trivial (fun k hk => by cases hk) hl).mono fun x w' d => ⟨d.1, Tri.did h2 h3 h4 h5 h6 h7 h8 d.2.2.1 (d.2.2.2.mono fun i hi => hi.elim id (fun e => by cases e))⟩

theorem tri_free {w0 : World} {X : Beside} (a b c : Nat) (sa sb sc : AS) (id_ : Int) (w : World) (h : Tri w0 w X a b c sa sb sc) (i1 : -9223372036854775808 ≤ id_) (i2 : id_ ≤ 9223372036854775807) :
    Calls Try.prog 21 #[Arena.ptr a, .int .i64 id_] w fun x w' => x = .returned (.int .i64 (freeV sa none mm id_).1) ∧ Tri w0 w' X a b c (freeV sa none mm id_).2.1 sb sc := by
  obtain ⟨Fa, Fb, Fc, h1, h2, h3, h4, h5, h6, h7, h8⟩ := h
  exact (free_any a none sa Fa mm id_ w h1 trivial (fun k hk => by cases hk) i1 i2).mono fun x w' d => ⟨d.1, Tri.did h2 h3 h4 h5 h6 h7 h8 d.2.2.1 (d.2.2.2.mono fun i hi => hi.elim id (fun e => by cases e))⟩

theorem tri_set {w0 : World} {X : Beside} (a b c : Nat) (sa sb sc : AS) (id_ i v : Int) (w : World) (h : Tri w0 w X a b c sa sb sc) (i1 : -9223372036854775808 ≤ id_) (i2 : id_ ≤ 9223372036854775807) :
    Calls Try.prog 24 #[Arena.ptr a, .int .i64 id_, .int .i64 i, .int .i64 v] w fun x w' => x = .returned (.int .i64 (placeV sa id_ i).2) ∧ Tri w0 w' X a b c (sa.set id_ i v) sb sc := by
  obtain ⟨Fa, Fb, Fc, h1, h2, h3, h4, h5, h6, h7, h8⟩ := h
  exact (set_any a none sa Fa id_ i v w h1 i1 i2).mono fun x w' d => ⟨d.1, Tri.did h2 h3 h4 h5 h6 h7 h8 ⟨Fa, d.2.1, fun k hk => .inl hk⟩ d.2.2⟩

theorem tri_left {w0 : World} {X : Beside} (a b c : Nat) (sa sb sc : AS) (w : World) (h : Tri w0 w X a b c sa sb sc) :
    Calls Try.prog 27 #[Arena.ptr a] w fun x w' => x = .returned (.int .i64 (sa.size - sa.used : Int)) ∧ w = w' := by
  obtain ⟨Fa, Fb, Fc, h1, h2, h3, h4, h5, h6, h7, h8⟩ := h
  exact left_any a none sa Fa w h1

/-- What Base answers. -/
def baseV (s : AS) (id : Int) : Int := match Regs.look s.L id with | some r => (r.base : Int) | none => -1

theorem tri_base {w0 : World} {X : Beside} (a b c : Nat) (sa sb sc : AS) (id_ : Int) (w : World) (h : Tri w0 w X a b c sa sb sc) (i1 : -9223372036854775808 ≤ id_) (i2 : id_ ≤ 9223372036854775807) :
    Calls Try.prog 29 #[Arena.ptr a, .int .i64 id_] w fun x w' => x = .returned (.int .i64 (baseV sa id_)) ∧ Tri w0 w' X a b c sa sb sc := by
  obtain ⟨Fa, Fb, Fc, h1, h2, h3, h4, h5, h6, h7, h8⟩ := id h
  exact (base_any a none sa Fa id_ w h1 i1 i2).mono fun x w' d => ⟨d.1, h.noneK d.2⟩

/-- The three are made. -/
theorem Tri.made {w0 w1 w2 w3 : World} {size : Int} {e1 e2 e3 : Ending} (q : Keep (fun _ => False) w0 w1) {w1' : World} (h1 : Fresh w1 none (AS.new size) e1 w1') (h2 : Fresh w1' none (AS.new size) e2 w2) (h3 : Fresh w2 none (AS.new size) e3 w3) :
    ∃ a b c, e1 = .returned (Arena.ptr a) ∧ e2 = .returned (Arena.ptr b) ∧ e3 = .returned (Arena.ptr c) ∧ Tri w0 w3 [] a b c (AS.new size) (AS.new size) (AS.new size) := by
  obtain ⟨a, Fa, a1, a2, a3, a4⟩ := h1
  obtain ⟨b, Fb, b1, b2, b3, b4⟩ := h2
  obtain ⟨c, Fc, c1, c2, c3, c4⟩ := h3
  have la := a2.lt
  have lb := b2.lt
  refine ⟨a, b, c, a1, b1, c1, Fa, Fb, Fc, (a2.none b4).none c4, b2.none c4, c2, fun k hk => ⟨fun h => ?_, fun h => ?_⟩, fun k hk h => ?_, fun k hk => ?_, fun e he => by simp at he, ((q.trans a4).trans b4).trans c4⟩
  · have := la k hk; have := b3 k h; omega
  · have := la k hk; have := c3 k h; have := b4.size; omega
  · have := lb k hk; have := c3 k h; omega
  · have z1 := q.size; have z2 := a4.size; have z3 := b4.size
    rcases hk with h | h | h
    · have := a3 k h; omega
    · have := b3 k h; omega
    · have := c3 k h; omega

end Go.Proofs.Ytklknkeanmjhnaa.Arena
