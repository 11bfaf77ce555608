/- Plain mathematics of package parts: a cut of all bytes into classes, one set after the other; sorted by their least bytes they are the document's. -/
import Derived.Test.YtidfjeliofgpmaaDoorParts
import Derived.Test.YtidfjeliofgpmaaDoorEqSet
namespace Go.Proofs.YtidfjeliofgpmaaDoor.Part
open Go.Proofs.YtidfjeliofgpmaaDoor.Sets Go.Proofs.YtidfjeliofgpmaaDoor.Cls Go.Proofs.YtidfjeliofgpmaaDoor.Parts Go.Proofs.YtidfjeliofgpmaaDoor.Bytes

/-- M are the classes by the sets L, in some order. -/
structure Part (L M : List ST) : Prop where
  ok : ∀ s ∈ M, s.Ok
  cover : ∀ b, b < 256 → ∃ s ∈ M, s.has b = true
  key : ∀ s ∈ M, ∀ a, a < 256 → s.has a = true → ∀ b, b < 256 → (s.has b = true ↔ key L a = key L b)
  ne : ∀ s ∈ M, ∃ b, b < 256 ∧ s.has b = true
  dis : M.Pairwise fun s t => ∀ b, b < 256 → ¬ (s.has b = true ∧ t.has b = true)

theorem part_nil : Part [] [ST.range 0 255] := by
  have h : ∀ b, b < 256 → (ST.range 0 255).has b = true := fun b hb => by
    rw [ST.has_range _ _ _ hb, decide_eq_true_eq]
    omega
  refine ⟨fun s hs => ?_, fun b hb => ⟨_, List.mem_singleton.2 rfl, h b hb⟩, fun s hs a ha _ b hb => ?_, fun s hs => ?_, List.pairwise_singleton _ _⟩
  · rw [List.mem_singleton.1 hs]; exact ST.range_ok _ _
  · rw [List.mem_singleton.1 hs]
    exact ⟨fun _ => rfl, fun _ => h b hb⟩
  · rw [List.mem_singleton.1 hs]
    exact ⟨0, by decide, h 0 (by decide)⟩

/-- Does a cut s in two? The two parts. -/
def cuts (a s : ST) : Bool := !eqB (s.and a) ST.none && !eqB (s.and a) s
def inA (a s : ST) : ST := if cuts a s then s.and a else s
def outA (a s : ST) : Option ST := if cuts a s then some (s.and a.not) else none
def splitL (a : ST) (M : List ST) : List ST := M.map (inA a) ++ M.filterMap (outA a)
/-- .. when k of them are done. -/
def mid (a : ST) (M : List ST) (k : Nat) : List ST := (M.take k).map (inA a) ++ M.drop k ++ (M.take k).filterMap (outA a)

theorem mid_zero (a : ST) (M : List ST) : mid a M 0 = M := by simp [mid]
theorem mid_end (a : ST) (M : List ST) : mid a M M.length = splitL a M := by simp [mid, splitL]
theorem mid_length (a : ST) (M : List ST) (k : Nat) (h : k ≤ M.length) : (mid a M k).length ≤ M.length + k := by
  have := List.length_filterMap_le (outA a) (M.take k)
  simp [mid] at *
  omega
theorem mid_le (a : ST) (M : List ST) (k : Nat) (h : k ≤ M.length) : M.length ≤ (mid a M k).length := by
  simp [mid]
  omega
theorem mid_at (a : ST) (M : List ST) (k i : Nat) (h : k ≤ i) (hi : i < M.length) : (mid a M k)[i]? = M[i]? := by
  unfold mid
  rw [List.getElem?_append_left (by simp; omega), List.getElem?_append_right (by simp; omega)]
  simp
  congr 1
  omega
theorem mid_no {a : ST} {M : List ST} {k : Nat} {s : ST} (hs : M[k]? = some s) (h : cuts a s = false) : mid a M (k + 1) = mid a M k := by
  obtain ⟨hk, e⟩ := List.getElem?_eq_some_iff.1 hs
  unfold mid
  rw [List.take_add_one, hs, List.drop_eq_getElem_cons hk, e]
  simp [inA, outA, h]
theorem mid_yes {a : ST} {M : List ST} {k : Nat} {s : ST} (hs : M[k]? = some s) (h : cuts a s = true) : mid a M (k + 1) = (mid a M k).set k (s.and a) ++ [s.and a.not] := by
  obtain ⟨hk, e⟩ := List.getElem?_eq_some_iff.1 hs
  unfold mid
  rw [List.take_add_one, hs, List.drop_eq_getElem_cons hk, e]
  have hl : ((M.take k).map (inA a)).length = k := by simp; omega
  rw [List.append_assoc, List.append_assoc, List.set_append_right _ _ (by omega), hl, Nat.sub_self]
  simp [inA, outA, h]

theorem cuts_iff {a s : ST} (hs : s.Ok) : cuts a s = true ↔ (∃ b, b < 256 ∧ s.has b = true ∧ a.has b = true) ∧ (∃ b, b < 256 ∧ s.has b = true ∧ a.has b = false) := by
  have h1 : s.and a = ST.none ↔ ∀ b, b < 256 → s.has b = true → a.has b = false := by
    constructor
    · intro e b hb h
      have := ST.has_and s a b hb
      rw [e, ST.has_none, h] at this
      simpa using this.symm
    · intro k
      refine ST.ext (ST.and_ok hs) ST.none_ok fun b hb => ?_
      rw [ST.has_and _ _ _ hb, ST.has_none]
      cases e : s.has b
      · rfl
      · rw [k b hb e]; rfl
  have h2 : s.and a = s ↔ ∀ b, b < 256 → s.has b = true → a.has b = true := by
    constructor
    · intro e b hb h
      have := ST.has_and s a b hb
      rw [e, h] at this
      simpa using this.symm
    · intro k
      refine ST.ext (ST.and_ok hs) hs fun b hb => ?_
      rw [ST.has_and _ _ _ hb]
      cases e : s.has b
      · rfl
      · rw [k b hb e]; rfl
  unfold cuts
  rw [Bool.and_eq_true, Bool.not_eq_true', Bool.not_eq_true']
  constructor
  · rintro ⟨e1, e2⟩
    constructor
    · refine Classical.byContradiction fun k => ?_
      have : s.and a = ST.none := h1.2 fun b hb h => by
        cases e : a.has b
        · rfl
        · exact absurd ⟨b, hb, h, e⟩ k
      rw [eqB_iff.2 this] at e1
      cases e1
    · refine Classical.byContradiction fun k => ?_
      have : s.and a = s := h2.2 fun b hb h => by
        cases e : a.has b
        · exact absurd ⟨b, hb, h, e⟩ k
        · rfl
      rw [eqB_iff.2 this] at e2
      cases e2
  · rintro ⟨⟨b, hb, h, e⟩, ⟨c, hc, h', e'⟩⟩
    constructor
    · refine eqB_ne fun k => ?_
      have := h1.1 k b hb h
      rw [e] at this
      cases this
    · refine eqB_ne fun k => ?_
      have := h2.1 k c hc h'
      rw [e'] at this
      cases this

/-- t is what of s is in a, or what isn't. -/
def Piece (a s t : ST) : Prop := t.Ok ∧ (∃ b, b < 256 ∧ t.has b = true) ∧ ∃ v : Bool, ∀ b, b < 256 → t.has b = (s.has b && (a.has b == v))

theorem piece_no {a s : ST} (hs : s.Ok) (hn : ∃ b, b < 256 ∧ s.has b = true) (h : cuts a s = false) : Piece a s s := by
  refine ⟨hs, hn, ?_⟩
  obtain ⟨b, hb, h1⟩ := hn
  refine ⟨a.has b, fun c hc => ?_⟩
  cases e : s.has c
  · rfl
  · have k : ¬ (cuts a s = true) := by rw [h]; simp
    rw [cuts_iff hs] at k
    cases e1 : a.has b <;> cases e2 : a.has c
    · rfl
    · exact absurd ⟨⟨c, hc, e, e2⟩, ⟨b, hb, h1, e1⟩⟩ k
    · exact absurd ⟨⟨b, hb, h1, e1⟩, ⟨c, hc, e, e2⟩⟩ k
    · rfl

theorem piece_in {a s : ST} (hs : s.Ok) (hn : ∃ b, b < 256 ∧ s.has b = true) : Piece a s (inA a s) := by
  unfold inA
  cases h : cuts a s
  · exact piece_no hs hn h
  · rw [if_pos rfl]
    obtain ⟨⟨b, hb, h1, h2⟩, -⟩ := (cuts_iff hs).1 h
    refine ⟨ST.and_ok hs, ⟨b, hb, by rw [ST.has_and _ _ _ hb, h1, h2]; rfl⟩, true, fun c hc => ?_⟩
    rw [ST.has_and _ _ _ hc]
    cases a.has c <;> rfl

theorem out_some {a s t : ST} (h : outA a s = some t) : cuts a s = true ∧ t = s.and a.not := by
  unfold outA at h
  cases e : cuts a s
  · rw [e] at h; simp at h
  · rw [e, if_pos rfl] at h
    exact ⟨rfl, (Option.some.inj h).symm⟩

theorem piece_out {a s t : ST} (ha : a.Ok) (hs : s.Ok) (h : outA a s = some t) : Piece a s t := by
  obtain ⟨hc, rfl⟩ := out_some h
  obtain ⟨-, ⟨b, hb, h1, h2⟩⟩ := (cuts_iff hs).1 hc
  refine ⟨ST.and_ok hs, ⟨b, hb, by rw [ST.has_and _ _ _ hb, ST.has_not ha _ hb, h1, h2]; rfl⟩, false, fun c hc => ?_⟩
  rw [ST.has_and _ _ _ hc, ST.has_not ha _ hc]
  cases a.has c <;> rfl

theorem mem_split {a t : ST} {M : List ST} : t ∈ splitL a M ↔ ∃ s ∈ M, t = inA a s ∨ outA a s = some t := by
  unfold splitL
  rw [List.mem_append, List.mem_map, List.mem_filterMap]
  constructor
  · rintro (⟨s, h, rfl⟩ | ⟨s, h, e⟩)
    · exact ⟨s, h, .inl rfl⟩
    · exact ⟨s, h, .inr e⟩
  · rintro ⟨s, h, rfl | e⟩
    · exact .inl ⟨s, h, rfl⟩
    · exact .inr ⟨s, h, e⟩

theorem key_append (L : List ST) (a : ST) (x y : Nat) : key (L ++ [a]) x = key (L ++ [a]) y ↔ key L x = key L y ∧ a.has x = a.has y := by
  rw [key_iff, key_iff]
  constructor
  · intro h
    exact ⟨fun s hs => h s (List.mem_append_left _ hs), h a (by simp)⟩
  · rintro ⟨h1, h2⟩ s hs
    rcases List.mem_append.1 hs with hs | hs
    · exact h1 s hs
    · rw [List.mem_singleton.1 hs]
      exact h2

theorem part_split {L M : List ST} {a : ST} (h : Part L M) (ha : a.Ok) : Part (L ++ [a]) (splitL a M) := by
  have hp : ∀ t ∈ splitL a M, ∃ s ∈ M, Piece a s t := fun t ht => by
    obtain ⟨s, hs, rfl | e⟩ := mem_split.1 ht
    · exact ⟨s, hs, piece_in (h.ok s hs) (h.ne s hs)⟩
    · exact ⟨s, hs, piece_out ha (h.ok s hs) e⟩
  refine ⟨fun t ht => ?_, fun b hb => ?_, fun t ht x hx h1 b hb => ?_, fun t ht => ?_, ?_⟩
  · obtain ⟨s, hs, p⟩ := hp t ht
    exact p.1
  · obtain ⟨s, hs, hsb⟩ := h.cover b hb
    cases hc : cuts a s
    · exact ⟨s, mem_split.2 ⟨s, hs, .inl (by unfold inA; rw [hc]; rfl)⟩, hsb⟩
    · cases e : a.has b
      · exact ⟨s.and a.not, mem_split.2 ⟨s, hs, .inr (by unfold outA; rw [hc]; rfl)⟩, by rw [ST.has_and _ _ _ hb, ST.has_not ha _ hb, hsb, e]; rfl⟩
      · exact ⟨s.and a, mem_split.2 ⟨s, hs, .inl (by unfold inA; rw [hc]; rfl)⟩, by rw [ST.has_and _ _ _ hb, hsb, e]; rfl⟩
  · obtain ⟨s, hs, -, -, v, p⟩ := hp t ht
    rw [key_append]
    rw [p x hx, Bool.and_eq_true, beq_iff_eq] at h1
    rw [p b hb, Bool.and_eq_true, beq_iff_eq, h1.2, h.key s hs x hx h1.1 b hb]
    exact ⟨fun k => ⟨k.1, k.2.symm⟩, fun k => ⟨k.1, k.2.symm⟩⟩
  · obtain ⟨s, hs, p⟩ := hp t ht
    exact p.2.1
  · have hin : ∀ s, ∀ b, b < 256 → (inA a s).has b = true → s.has b = true := fun s b hb k => by
      unfold inA at k
      split at k
      · rw [ST.has_and _ _ _ hb, Bool.and_eq_true] at k
        exact k.1
      · exact k
    have hout : ∀ s t, outA a s = some t → ∀ b, b < 256 → t.has b = true → s.has b = true ∧ a.has b = false := fun s t e b hb k => by
      obtain ⟨-, rfl⟩ := out_some e
      rw [ST.has_and _ _ _ hb, ST.has_not ha _ hb, Bool.and_eq_true] at k
      exact ⟨k.1, by simpa using k.2⟩
    refine List.pairwise_append.2 ⟨?_, ?_, ?_⟩
    · rw [List.pairwise_map]
      exact h.dis.imp fun {s t} k b hb e => k b hb ⟨hin s b hb e.1, hin t b hb e.2⟩
    · refine List.Pairwise.filterMap (outA a) ?_ h.dis
      intro s t k x hx y hy b hb e
      exact k b hb ⟨(hout s x hx b hb e.1).1, (hout t y hy b hb e.2).1⟩
    · intro x hx y hy b hb e
      obtain ⟨s, hs, rfl⟩ := List.mem_map.1 hx
      obtain ⟨t, ht, hy⟩ := List.mem_filterMap.1 hy
      obtain ⟨h1, h2⟩ := hout t y hy b hb e.2
      have h3 := hin s b hb e.1
      have hst : s = t := ST.ext (h.ok s hs) (h.ok t ht) fun c hc => by
        have k1 := h.key s hs b hb h3 c hc
        have k2 := h.key t ht b hb h1 c hc
        rw [Bool.eq_iff_iff, k1, k2]
      subst hst
      have e1 := e.1
      unfold inA at e1
      rw [(out_some hy).1, if_pos rfl, ST.has_and _ _ _ hb, h2] at e1
      simp at e1

theorem part_perm {L M N : List ST} (h : Part L M) (p : M.Perm N) : Part L N :=
  ⟨fun s hs => h.ok s (p.mem_iff.2 hs), fun b hb => by
    obtain ⟨s, hs, e⟩ := h.cover b hb
    exact ⟨s, p.mem_iff.1 hs, e⟩, fun s hs => h.key s (p.mem_iff.2 hs), fun s hs => h.ne s (p.mem_iff.2 hs),
    p.pairwise h.dis fun k b hb e => k b hb ⟨e.2, e.1⟩⟩

/-- The least byte of a set. -/
@[reducible] def low (s : ST) : Nat := nxt s.has 0
theorem low_spec {s : ST} (h : ∃ b, b < 256 ∧ s.has b = true) : low s < 256 ∧ s.has (low s) = true ∧ ∀ b, b < low s → s.has b = false := by
  obtain ⟨b, hb, e⟩ := h
  have n := nxt_nx s.has 0 (by decide)
  have hl : nxt s.has 0 < 256 := by
    refine Nat.lt_of_not_le fun k => ?_
    have := n.gap b (Nat.zero_le _) (by omega)
    rw [e] at this
    cases this
  exact ⟨hl, n.at' hl, fun b hb => n.gap b (Nat.zero_le _) hb⟩

theorem low_ne {L M : List ST} (h : Part L M) : M.Pairwise fun s t => low s ≠ low t := by
  refine h.dis.imp_of_mem ?_
  intro s t hs ht k e
  have h1 := low_spec (h.ne s hs)
  have h2 := low_spec (h.ne t ht)
  exact k (low s) h1.1 ⟨h1.2.1, by rw [e]; exact h2.2.1⟩

/-- Counting those of a list. -/
theorem cnt_list {p : Nat → Bool} {l : List Nat} (hn : l.Nodup) : ∀ n, (∀ b, b < n → (p b = true ↔ b ∈ l)) → cnt p n = l.countP (fun x => decide (x < n))
  | 0, _ => by simp [cnt]
  | n + 1, h => by
    have i := cnt_list hn n (fun b hb => h b (by omega))
    have e : ∀ m : List Nat, m.countP (fun x => decide (x < n + 1)) = m.countP (fun x => decide (x < n)) + m.count n := fun m => by
      induction m with
      | nil => rfl
      | cons x m ih =>
        rw [List.countP_cons, List.countP_cons, List.count_cons, ih]
        by_cases h1 : x < n
        · have h2 : x < n + 1 := by omega
          have h3 : ¬ x = n := by omega
          simp [h1, h2, h3]
          omega
        · by_cases h3 : x = n
          · subst h3
            simp
            omega
          · have h2 : ¬ x < n + 1 := by omega
            simp [h1, h2, h3]
    rw [e, cnt, i, hn.count]
    have := h n (by omega)
    cases q : p n
    · rw [q] at this
      rw [if_neg (fun k => by simpa using this.2 k)]
      rfl
    · rw [q] at this
      rw [if_pos (this.1 rfl)]
      rfl

theorem nodup_low {L M : List ST} (h : Part L M) : (M.map low).Nodup := by
  unfold List.Nodup
  rw [List.pairwise_map]
  exact low_ne h

theorem first_low {L M : List ST} (h : Part L M) (b : Nat) (hb : b < 256) : first (key L) b = true ↔ b ∈ M.map low := by
  rw [first_iff, List.mem_map]
  constructor
  · intro k
    obtain ⟨s, hs, e⟩ := h.cover b hb
    have hl := low_spec (h.ne s hs)
    refine ⟨s, hs, ?_⟩
    rcases Nat.lt_trichotomy (low s) b with c | c | c
    · exact absurd ((h.key s hs _ hl.1 hl.2.1 b hb).1 e) (k _ c)
    · exact c
    · have := hl.2.2 b c
      rw [e] at this
      cases this
  · rintro ⟨s, hs, rfl⟩ a ha e
    have hl := low_spec (h.ne s hs)
    have h1 := (h.key s hs _ hl.1 hl.2.1 a (by omega)).2 e.symm
    rw [hl.2.2 a ha] at h1
    cases h1

theorem part_length {L M : List ST} (h : Part L M) : M.length = ncl (key L) := by
  have e := cnt_list (nodup_low h) 256 (p := first (key L)) (first_low h)
  unfold ncl
  rw [e]
  have : (M.map low).countP (fun x => decide (x < 256)) = (M.map low).length := List.countP_eq_length.2 fun x hx => by
    obtain ⟨s, hs, rfl⟩ := List.mem_map.1 hx
    exact decide_eq_true (low_spec (h.ne s hs)).1
  rw [this, List.length_map]

theorem part_le {L M : List ST} (h : Part L M) : M.length ≤ 256 := by
  rw [part_length h]
  exact ncl_le _

theorem count_sorted : ∀ (l : List Nat), l.Pairwise (· < ·) → ∀ i x, l[i]? = some x → l.countP (fun y => decide (y < x)) = i
  | [], _, i, x, h => by simp at h
  | y :: l, p, 0, x, h => by
    simp at h
    subst h
    have p := List.pairwise_cons.1 p
    rw [List.countP_cons, List.countP_eq_zero.2 (fun z hz => by have := p.1 z hz; simp; omega)]
    simp
  | y :: l, p, i + 1, x, h => by
    have q := List.pairwise_cons.1 p
    have h' : l[i]? = some x := by simpa using h
    have := q.1 x (List.mem_of_getElem? h')
    rw [List.countP_cons, count_sorted l q.2 i x h']
    simp [this]

/-- Sorted by their least bytes, they are the document's classes. -/
theorem part_sorted {L M : List ST} (h : Part L M) (hs : M.Pairwise fun s t => low s ≤ low t) {c : Nat} {s : ST} (hc : M[c]? = some s) : ∀ b, b < 256 → s.has b = decide (cls (key L) b = c) := by
  have hst : (M.map low).Pairwise (· < ·) := by
    rw [List.pairwise_map]
    exact (hs.and (low_ne h)).imp fun k => by omega
  have hmem := List.mem_of_getElem? hc
  have hl := low_spec (h.ne s hmem)
  have hf : first (key L) (low s) = true := (first_low h _ hl.1).2 (List.mem_map_of_mem hmem)
  have hcl : cls (key L) (low s) = c := by
    rw [cls_first _ hf, cnt_list (nodup_low h) (low s) (fun b hb => first_low h b (by omega))]
    exact count_sorted _ hst c _ (by rw [List.getElem?_map, hc]; rfl)
  intro b hb
  rw [Bool.eq_iff_iff, decide_eq_true_eq, h.key s hmem _ hl.1 hl.2.1 b hb, ← cls_iff, hcl]
  exact ⟨fun e => e.symm, fun e => e.symm⟩

/-- What package parts keeps: the classes in their order. -/
structure Done (L M : List ST) : Prop where
  ok : ∀ s ∈ M, s.Ok
  len : M.length = ncl (key L)
  at' : ∀ c s, M[c]? = some s → ∀ b, b < 256 → s.has b = decide (cls (key L) b = c)

theorem Done.of {L M : List ST} (h : Part L M) (hs : M.Pairwise fun s t => low s ≤ low t) : Done L M := ⟨h.ok, part_length h, fun _ _ hc => part_sorted h hs hc⟩

theorem Done.get {L M : List ST} (h : Done L M) {c : Nat} (hc : c < ncl (key L)) : M[c]? = some (ofC L c) := by
  obtain ⟨s, hs⟩ : ∃ s, M[c]? = some s := ⟨M[c]'(by rw [h.len]; exact hc), List.getElem?_eq_getElem _⟩
  rw [hs]
  refine congrArg some (ST.ext (h.ok s (List.mem_of_getElem? hs)) (ofP_ok fun b => decide ((cls (key L) b : Int) = c)) fun b hb => ?_)
  rw [h.at' c s hs b hb]
  refine Eq.trans ?_ (has_ofP (fun b => decide ((cls (key L) b : Int) = c)) b hb).symm
  apply decide_eq_decide.2
  omega

theorem ofC_none {L : List ST} {c : Int} (h : c < 0 ∨ (ncl (key L) : Int) ≤ c) : ofC L c = ST.none := by
  refine ST.ext (ofP_ok _) ST.none_ok fun b hb => ?_
  rw [ofC, has_ofP _ _ hb, ST.has_none]
  have := cls_lt (key L) hb
  exact decide_eq_false (by omega)

theorem ofC_ok (L : List ST) (c : Int) : (ofC L c).Ok := ofP_ok _

theorem has_ofC (L : List ST) (c : Int) (b : Nat) (hb : b < 256) : (ofC L c).has b = decide ((cls (key L) b : Int) = c) := has_ofP _ _ hb

/-- The least byte of a class. -/
theorem low_ofC {L : List ST} {b : Nat} (hb : b < 256) (hf : first (key L) b = true) : nxt (ofC L (cls (key L) b)).has 0 = b := by
  refine (Nx.eq ⟨Nat.zero_le _, by omega, fun x _ hx => ?_, fun _ => ?_⟩).symm
  · rw [has_ofC _ _ _ (by omega)]
    refine decide_eq_false fun e => ?_
    have : key L x = key L b := (cls_iff _).1 (by omega)
    exact (first_iff _ _).1 hf x hx this
  · rw [has_ofC _ _ _ hb]
    exact decide_eq_true rfl

theorem low_none : nxt ST.none.has 0 = 256 := (Nx.eq ⟨Nat.zero_le _, Nat.le_refl _, fun x _ _ => ST.has_none x, fun h => absurd h (Nat.lt_irrefl _)⟩).symm

/-- Does a class lie in a set? -/
theorem inn_iff (L : List ST) {s : ST} (hs : s.Ok) (c : Nat) : inn L s c = eqB ((ofC L c).and s.not) ST.none := by
  rw [Bool.eq_iff_iff, eqB_iff, inn, List.all_eq_true]
  constructor
  · intro k
    refine ST.ext (ST.and_ok (ofC_ok _ _)) ST.none_ok fun b hb => ?_
    have := k b (List.mem_range.2 hb)
    rw [ST.has_and _ _ _ hb, ST.has_not hs _ hb, has_ofC _ _ _ hb, ST.has_none]
    by_cases e : cls (key L) b = c
    · simp [e] at this
      simp [this]
    · have e' : ¬ (cls (key L) b : Int) = c := by omega
      simp [e']
  · intro e b hb
    have hb := List.mem_range.1 hb
    have k := ST.has_and (ofC L c) s.not b hb
    rw [e, ST.has_none, ST.has_not hs _ hb, has_ofC _ _ _ hb] at k
    by_cases e : cls (key L) b = c
    · subst e
      simp at k
      simp [k]
    · simp [e]

end Go.Proofs.YtidfjeliofgpmaaDoor.Part
