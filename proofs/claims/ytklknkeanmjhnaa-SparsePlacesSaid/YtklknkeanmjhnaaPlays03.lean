/- A set of the caller's own beside the document's own list of what is in it. -/
import Derived.Test.YtklknkeanmjhnaaPair
namespace Go.Proofs.Ytklknkeanmjhnaa.Law03
open Go.RowKit Go.Proofs.Ytklknkeanmjhnaa.Base Go.Proofs.Ytklknkeanmjhnaa.Lists Go.Proofs.Ytklknkeanmjhnaa.Sparse Go.Proofs.Ytklknkeanmjhnaa.Meter Go.Proofs.Ytklknkeanmjhnaa.Ref03

structure Pl (w0 w : World) (X : Beside) (b g n : Nat) (L : List Nat) (lv : Value) : Prop where
  o : Ow w0 b g n L w
  li : Li b g lv (ints L) w
  x : ∀ e ∈ X, At w e.1 e.2.1 e.2.2 ∧ e.1 ≠ b ∧ e.1 ≠ g

theorem Pl.noneK {w0 w w' : World} {X : Beside} {b g n : Nat} {L : List Nat} {lv : Value} (h : Pl w0 w X b g n L lv) (q : Keep (fun _ => False) w w') : Pl w0 w' X b g n L lv :=
  ⟨h.o.quiet q, h.li.quiet q, fun e he => ⟨(h.x e he).1.keep q id, (h.x e he).2⟩⟩

theorem Pl.less {w0 w : World} {X : Beside} {b g n : Nat} {L : List Nat} {lv : Value} (h : Pl w0 w X b g n L lv) : Pl w0 w [] b g n L lv := ⟨h.o, h.li, fun e he => by simp at he⟩

theorem Pl.more {w0 w : World} {X : Beside} {b g n : Nat} {L : List Nat} {lv : Value} (h : Pl w0 w X b g n L lv) (vs : Array Value) (t : TypeId) : Pl w0 (w.alloc (.cells vs t)) ((w.heap.size, t, vs) :: X) b g n L lv := by
  have q : Keep (fun _ => False) w (w.alloc (.cells vs t)) := (Keep.refl _ w).alloc _
  have h1 := h.o.b1
  have h2 := h.o.g1
  refine ⟨h.o.quiet q, h.li.quiet q, fun e he => ?_⟩
  rcases List.mem_cons.1 he with rfl | he
  · exact ⟨At.new w vs t, by simp only; omega, by simp only; omega⟩
  · exact ⟨(h.x e he).1.keep q id, (h.x e he).2⟩

theorem Pl.at_ {w0 w : World} {X : Beside} {b g n : Nat} {L : List Nat} {lv : Value} (h : Pl w0 w X b g n L lv) {k : Nat} {t : TypeId} {vs : Array Value} (hx : (k, t, vs) ∈ X) : At w k t vs := (h.x _ hx).1

theorem Pl.form {w0 w : World} {X : Beside} {b g n : Nat} {L : List Nat} {lv : Value} (h : Pl w0 w X b g n L lv) : ∃ a cap, lv = .slice a L.length cap ∧ L.length ≤ 65536 ∧ ∀ i x : Nat, L[i]? = some x → ∃ u, a = some ⟨u, 0, none⟩ ∧ w.cell? ⟨u, i, none⟩ = some (.int .i64 x) := by
  obtain ⟨a, cap, e, hc⟩ := h.li.il.form
  have e2 : (ints L).length = L.length := by simp [ints]
  have e3 := len_of h.o.st
  rw [e2] at e e3
  refine ⟨a, cap, e, e3, fun i x hx => ?_⟩
  obtain ⟨u, -, ha, hw⟩ := hc i x (by unfold ints; rw [List.getElem?_map, hx]; rfl)
  exact ⟨u, ha, hw⟩

/-- .. and a list that is to take the other one's place. -/
structure Pn (w0 w : World) (X : Beside) (b g n : Nat) (L : List Nat) (lv : Value) (M : List Nat) (u : Value) : Prop where
  p : Pl w0 w X b g n L lv
  li : Li b g u (ints M) w

theorem mem_ints {L : List Nat} {x : Int} (h : 0 ≤ x) : x ∈ ints L ↔ x.toNat ∈ L := by
  unfold ints
  rw [List.mem_map]
  constructor
  · rintro ⟨y, hy, rfl⟩
    simpa using hy
  · intro hy
    exact ⟨_, hy, by omega⟩

theorem pl_ref_add {w0 : World} {X : Beside} (b g n : Nat) (L : List Nat) (lv : Value) (x : Int) (w : World) (h : Pl w0 w X b g n L lv) :
    Calls Try.prog 33 #[lv, .int .i64 n, .int .i64 x] w fun e w' => ∃ u, e = .returned (.tuple #[u, .bool (addV n L x).2]) ∧ Pn w0 w' X b g n L lv (addV n L x).1 u := by
  have hl := len_of h.o.st
  by_cases hx : x < 0 ∨ (n : Int) ≤ x ∨ x ∈ ints L
  · refine (add_ref_old lv (ints L) n x w h.li.il (by omega) hx).mono ?_
    rintro e w1 ⟨rfl, rfl⟩
    have : addV n L x = (L, false) := by
      unfold addV
      rw [if_neg]
      intro hc
      simp only [mayV, hasV, Bool.and_eq_true, decide_eq_true_eq, Bool.not_eq_true', Bool.and_eq_false_iff, decide_eq_false_iff_not] at hc
      rcases hx with hx | hx | hx
      · omega
      · omega
      · have := (mem_ints hc.1.1).1 hx
        rcases hc.2 with h2 | h2
        · omega
        · exact h2 this
    rw [this]
    exact ⟨lv, rfl, h, h.li⟩
  · have h0 : 0 ≤ x := by omega
    have h1 : x < n := by omega
    have h2 : x ∉ ints L := fun hc => hx (.inr (.inr hc))
    refine (add_ref_new lv (ints L) n x w h.li.il hl h0 h1 h2).mono ?_
    rintro e w1 ⟨u, rfl, g1, g2, g3⟩
    have h3 : x.toNat ∉ L := fun hc => h2 ((mem_ints h0).2 hc)
    have : addV n L x = (L ++ [x.toNat], true) := by
      unfold addV
      rw [if_pos]
      simp [mayV, hasV, h0, h1, h3]
    rw [this]
    have i1 : ints (L ++ [x.toNat]) = ints L ++ [x] := by
      unfold ints
      rw [List.map_append]
      simp
      omega
    refine ⟨u, rfl, h.noneK g3, ⟨by rw [i1]; exact g1, fun k hk => ?_⟩⟩
    have := g2 k hk
    have := h.o.b1
    have := h.o.g1
    omega

theorem pn_add {w0 : World} {X : Beside} (b g n : Nat) (L : List Nat) (lv u : Value) (x : Int) (w : World) (h : Pn w0 w X b g n L lv (addV n L x).1 u) :
    Calls Try.prog 34 #[ptr b, .int .i64 x] w fun e w' => e = .returned (.bool (addV n L x).2) ∧ Pl w0 w' X b g n (addV n L x).1 u :=
  (own_add x _ _ rfl h.p.o).mono fun _ _ r => ⟨r.1, r.2.1, h.li.turn r.2.2, fun e he => ⟨(h.p.x e he).1.keep r.2.2 (by have := (h.p.x e he).2; omega), (h.p.x e he).2⟩⟩

theorem pl_clear {w0 : World} {X : Beside} (b g n : Nat) (L : List Nat) (lv : Value) (w : World) (h : Pl w0 w X b g n L lv) :
    Calls Try.prog 35 #[ptr b] w fun e w' => e = .returned (.tuple #[]) ∧ Pl w0 w' X b g n [] (.slice none 0 0) :=
  (own_clear h.o).mono fun _ _ r => ⟨r.1, r.2.1, ⟨IL.nil _, fun k hk => by cases hk⟩, fun e he => ⟨(h.x e he).1.keep r.2.2 (by have := (h.x e he).2; omega), (h.x e he).2⟩⟩

theorem pl_has {w0 : World} {X : Beside} (b g n : Nat) (L : List Nat) (lv : Value) (x : Int) (w : World) (h : Pl w0 w X b g n L lv) :
    Calls Try.prog 36 #[ptr b, .int .i64 x] w fun e w' => e = .returned (.bool (hasV L x)) ∧ w = w' := own_has x _ rfl h.o

theorem pl_ref_has {w0 : World} {X : Beside} (b g n : Nat) (L : List Nat) (lv : Value) (x : Int) (w : World) (h : Pl w0 w X b g n L lv) :
    Calls Try.prog 37 #[lv, .int .i64 x] w fun e w' => e = .returned (.bool (hasV L x)) ∧ w = w' := by
  have := has_ref lv (ints L) x w h.li.il (by have := len_of h.o.st; omega)
  have e : decide (x ∈ ints L) = hasV L x := by
    unfold hasV
    by_cases h0 : 0 ≤ x
    · simp [h0, mem_ints h0]
    · have : x ∉ ints L := by
        intro hc
        unfold ints at hc
        obtain ⟨y, _, rfl⟩ := List.mem_map.1 hc
        omega
      simp [h0, this]
  rw [e] at this
  exact this

theorem pl_len {w0 : World} {X : Beside} (b g n : Nat) (L : List Nat) (lv : Value) (w : World) (h : Pl w0 w X b g n L lv) :
    Calls Try.prog 38 #[ptr b] w fun e w' => e = .returned (.int .i64 L.length) ∧ w = w' := own_len _ rfl h.o

theorem pl_at {w0 : World} {X : Beside} (b g n : Nat) (L : List Nat) (lv : Value) (i : Int) (w : World) (h : Pl w0 w X b g n L lv) :
    Calls Try.prog 43 #[ptr b, .int .i64 i] w fun e w' => e = .returned (.int .i64 (atV L i)) ∧ w = w' := own_at i _ rfl h.o

theorem pl_list {w0 : World} {X : Beside} (b g n : Nat) (L : List Nat) (lv : Value) (w : World) (h : Pl w0 w X b g n L lv) :
    Calls Try.prog 40 #[ptr b] w fun e w' => ∃ v, e = .returned v ∧ IL w' v (ints L) ∧ Pl w0 w' X b g n L lv :=
  (own_list h.o).mono fun _ _ r => by
    obtain ⟨v, rfl, h1, h2⟩ := r
    exact ⟨v, rfl, h1.il, h.noneK h2⟩

theorem pl_sorted {w0 : World} {X : Beside} (b g n : Nat) (L : List Nat) (lv : Value) (w : World) (h : Pl w0 w X b g n L lv) :
    Calls Try.prog 41 #[ptr b] w fun e w' => ∃ v, e = .returned v ∧ IL w' v (sortI (ints L)) ∧ Pl w0 w' X b g n L lv :=
  (own_sorted h.o).mono fun _ _ r => by
    obtain ⟨v, rfl, h1, h2⟩ := r
    exact ⟨v, rfl, h1.il, h.noneK h2⟩

theorem ints_nodup {L : List Nat} (h : L.Nodup) : (ints L).Nodup := by
  unfold ints
  unfold List.Nodup at *
  rw [List.pairwise_map]
  exact h.imp (fun h e => h (by omega))

/-- What the document's own Sorted makes is what sorting makes. -/
theorem sorted_same {L : List Nat} {n : Nat} (hd : L.Nodup) (hn : ∀ x ∈ L, x < n) : (ints (List.range n)).filter (fun x => decide (x ∈ ints L)) = sortI (ints L) := by
  symm
  apply sortI_eq
  · rw [List.perm_ext_iff_of_nodup ((ints_nodup List.nodup_range).filter _) (ints_nodup hd)]
    intro x
    rw [List.mem_filter]
    constructor
    · intro h; simpa using h.2
    · intro h
      refine ⟨?_, by simpa using h⟩
      have h0 : 0 ≤ x := by
        unfold ints at h
        obtain ⟨y, _, rfl⟩ := List.mem_map.1 h
        omega
      rw [mem_ints h0] at h ⊢
      exact List.mem_range.2 (hn _ h)
  · apply List.Pairwise.filter
    unfold ints
    rw [List.pairwise_map]
    exact List.pairwise_lt_range.imp (fun h => by omega)

theorem pl_ref_sorted {w0 : World} {X : Beside} (b g n : Nat) (L : List Nat) (lv : Value) (w : World) (h : Pl w0 w X b g n L lv) :
    Calls Try.prog 42 #[lv, .int .i64 n] w fun e w' => ∃ v, e = .returned v ∧ IL w' v (sortI (ints L)) ∧ Keep (fun _ => False) w w' ∧ Pl w0 w' X b g n L lv := by
  refine (sorted_ref lv (ints L) n w h.li.il (len_of h.o.st) h.o.st.most).mono ?_
  rintro e w1 ⟨v, rfl, g1, g2, g3⟩
  rw [sorted_same h.o.st.nodup h.o.st.lt] at g1
  exact ⟨v, rfl, g1, g3, h.noneK g3⟩

theorem pl_same {w0 : World} {X : Beside} (b g n : Nat) (L : List Nat) (lv : Value) (va : Value) (w : World) (ha : IL w va (ints L)) (h : Pl w0 w X b g n L lv) :
    Calls Try.prog 39 #[va, lv] w fun e w' => e = .returned (.bool true) ∧ Pl w0 w' X b g n L lv :=
  (same_self _ ha h.li.il (by have := len_of h.o.st; omega)).mono fun _ _ r => ⟨r.1, h.noneK r.2⟩

theorem pl_same2 {w0 : World} {X : Beside} (b g n : Nat) (L : List Nat) (lv : Value) (va vb : Value) (w : World) (ha : IL w va (sortI (ints L))) (hb : IL w vb (sortI (ints L))) (h : Pl w0 w X b g n L lv) :
    Calls Try.prog 39 #[va, vb] w fun e w' => e = .returned (.bool true) ∧ Pl w0 w' X b g n L lv :=
  (same_self _ ha hb (by have := len_of h.o.st; unfold sortI; rw [List.length_mergeSort]; omega)).mono fun _ _ r => ⟨r.1, h.noneK r.2⟩

theorem Pl.made {w0 w1 w2 : World} {n : Nat} {e1 : Ending} (q : Keep (fun _ => False) w0 w1) (h1 : NewSet n w1 e1 w2 ∧ Keep (fun _ => False) w1 w2) :
    ∃ b g, e1 = .returned (.tuple #[ptr b, .int .i64 0]) ∧ Pl w0 w2 [] b g n [] (.slice none 0 0) := by
  obtain ⟨⟨b, g, rfl, x1, x2, x3, x4, x5, x6⟩, q1⟩ := h1
  have z0 := q.size
  have z1 := q1.size
  exact ⟨b, g, rfl, ⟨x6, by omega, by omega, by omega, by omega, q.trans q1⟩, ⟨IL.nil _, fun k hk => by cases hk⟩, fun e he => by simp at he⟩

end Go.Proofs.Ytklknkeanmjhnaa.Law03
