/- Plain mathematics: unlike sets have unlike texts; unlike bytes are written unlike. -/
import Derived.Test.YtdiegmejkipacaaDoorText
namespace Go.Proofs.YtdiegmejkipacaaDoor.Bytes
open Go.Proofs.YtdiegmejkipacaaDoor.Sets

/-- A sign of a class: a byte as it is written, or (256) the '-' of a range. -/
def tk (t : Nat) : List UInt8 := if t = 256 then [45] else esc t

def hexval (c : UInt8) : Nat := if c.toNat < 58 then c.toNat - 48 else c.toNat - 87
/-- What a text begins with. -/
def dec : List UInt8 → Nat
  | [] => 257
  | c :: r => if c = 92 then (match r with | _ :: x :: y :: _ => 16 * hexval x + hexval y | _ => 257) else if c = 45 then 256 else c.toNat
def dlen : List UInt8 → Nat
  | [] => 0
  | c :: _ => if c = 92 then 4 else 1

theorem tk_dec : ∀ t, t < 257 → dec (tk t) = t ∧ dlen (tk t) = (tk t).length ∧ (tk t).length ≠ 0 := by decide +kernel

theorem dec_append {l : List UInt8} (h : dlen l = l.length) (h0 : l.length ≠ 0) (a : List UInt8) : dec (l ++ a) = dec l := by
  match l, h, h0 with
  | c :: r, h, _ =>
    change (if c = 92 then 4 else 1) = _ at h
    by_cases hc : c = 92
    · rw [if_pos hc] at h
      match r, h with
      | [u, x, y], _ => simp [dec, hc]
    · simp [dec, hc]

theorem tk_inj {t u : Nat} (ht : t < 257) (hu : u < 257) {a b : List UInt8} (h : tk t ++ a = tk u ++ b) : t = u ∧ a = b := by
  obtain ⟨t1, t2, t3⟩ := tk_dec t ht
  obtain ⟨u1, u2, u3⟩ := tk_dec u hu
  have e := congrArg dec h
  rw [dec_append t2 t3, dec_append u2 u3, t1, u1] at e
  subst e
  exact ⟨rfl, List.append_cancel_left h⟩

def enc (ts : List Nat) : List UInt8 := ts.flatMap tk

theorem enc_cons (t : Nat) (ts : List Nat) : enc (t :: ts) = tk t ++ enc ts := by simp [enc]
theorem enc_append (ts us : List Nat) : enc (ts ++ us) = enc ts ++ enc us := by simp [enc]

theorem enc_inj : ∀ (ts us : List Nat), (∀ t, t ∈ ts → t < 257) → (∀ u, u ∈ us → u < 257) → enc ts = enc us → ts = us
  | [], [], _, _, _ => rfl
  | [], u :: us, _, hu, h => by
    have := (tk_dec u (hu u (by simp))).2.2
    have h2 : (tk u).length + (enc us).length = 0 := by rw [← List.length_append, ← enc_cons, ← h]; rfl
    omega
  | t :: ts, [], ht, _, h => by
    have := (tk_dec t (ht t (by simp))).2.2
    have h2 : (tk t).length + (enc ts).length = 0 := by rw [← List.length_append, ← enc_cons, h]; rfl
    omega
  | t :: ts, u :: us, ht, hu, h => by
    rw [enc_cons, enc_cons] at h
    obtain ⟨h1, h2⟩ := tk_inj (ht t (by simp)) (hu u (by simp)) h
    rw [h1, enc_inj ts us (fun x hx => ht x (List.mem_cons_of_mem _ hx)) (fun x hx => hu x (List.mem_cons_of_mem _ hx)) h2]

def spanK (a b : Nat) : List Nat := if b = a then [a] else if b = a + 1 then [a, b] else [a, 256, b]
def toks (L : List (Nat × Nat)) : List Nat := L.flatMap fun r => spanK r.1 r.2

theorem toks_cons (r : Nat × Nat) (L : List (Nat × Nat)) : toks (r :: L) = spanK r.1 r.2 ++ toks L := by simp [toks]

/-- Ranges that may be a set's. -/
structure Good (L : List (Nat × Nat)) : Prop where
  ord : ∀ r, r ∈ L → r.1 ≤ r.2 ∧ r.2 < 256
  pair : L.Pairwise fun r s => r.2 + 1 < s.1

theorem Good.tail {r : Nat × Nat} {L : List (Nat × Nat)} (h : Good (r :: L)) : Good L :=
  ⟨fun s hs => h.ord s (List.mem_cons_of_mem _ hs), (List.pairwise_cons.1 h.pair).2⟩

theorem span_enc (a b : Nat) (h : a ≤ b) (hb : b < 256) : spanT a b = enc (spanK a b) := by
  have ea : tk a = esc a := by rw [tk, if_neg (by omega)]
  have eb : tk b = esc b := by rw [tk, if_neg (by omega)]
  have ed : tk 256 = [45] := rfl
  unfold spanT spanK
  split
  · simp [enc, ea]
  · split
    · simp [enc, ea, eb]
    · simp [enc, ea, eb, ed]

theorem spans_enc : ∀ L, Good L → spansT L = enc (toks L)
  | [], _ => rfl
  | r :: L, h => by
    have o := h.ord r (by simp)
    have i := spans_enc L h.tail
    rw [toks_cons, enc_append, ← i, ← span_enc _ _ o.1 o.2]
    simp [spansT]

theorem toks_lt : ∀ L, Good L → ∀ t, t ∈ toks L → t < 257
  | [], _, t, ht => by simp [toks] at ht
  | r :: L, h, t, ht => by
    have o := h.ord r (by simp)
    rw [toks_cons] at ht
    rcases List.mem_append.1 ht with ht | ht
    · unfold spanK at ht
      split at ht
      · simp at ht; omega
      · split at ht
        · simp at ht; omega
        · simp at ht; omega
    · exact toks_lt L h.tail t ht

/-- The first sign of a class is the first range's first byte. -/
theorem toks_head {L : List (Nat × Nat)} (h : Good L) {t : Nat} {ts : List Nat} (e : toks L = t :: ts) : ∃ r l', L = r :: l' ∧ t = r.1 ∧ t < 256 := by
  match L, h, e with
  | [], _, e => simp [toks] at e
  | r :: l', h, e =>
    have o := h.ord r (by simp)
    rw [toks_cons] at e
    refine ⟨r, l', rfl, ?_, ?_⟩ <;> (unfold spanK at e; split at e <;> (try split at e) <;> simp at e <;> omega)

theorem toks_inj : ∀ (L M : List (Nat × Nat)), Good L → Good M → toks L = toks M → L = M
  | [], [], _, _, _ => rfl
  | [], m :: M, _, hM, h => by
    rw [toks_cons] at h
    unfold spanK at h
    split at h <;> (try split at h) <;> simp [toks] at h
  | l :: L, [], hL, _, h => by
    rw [toks_cons] at h
    unfold spanK at h
    split at h <;> (try split at h) <;> simp [toks] at h
  | (a, b) :: L, (c, d) :: M, hL, hM, h => by
    have oL := hL.ord (a, b) (by simp)
    have oM := hM.ord (c, d) (by simp)
    have pL := (List.pairwise_cons.1 hL.pair).1
    have pM := (List.pairwise_cons.1 hM.pair).1
    simp only at oL oM pL pM
    have far : ∀ {K : List (Nat × Nat)} {ts : List Nat} {n t : Nat}, Good K → (∀ r, r ∈ K → n + 1 < r.1) → toks K = t :: ts → n + 1 < t ∧ t < 256 := fun hK hp e => by
      obtain ⟨r, l', rfl, rfl, h2⟩ := toks_head hK e
      exact ⟨hp r (by simp), h2⟩
    rw [toks_cons, toks_cons] at h
    have same : toks L = toks M → L = M := toks_inj L M hL.tail hM.tail
    unfold spanK at h
    simp only at h
    split at h
    · rename_i h1
      split at h
      · rename_i h2
        simp at h
        rw [same h.2, h1, h2, h.1]
      · split at h
        · rename_i h2 h3
          simp at h
          have := far hL.tail pL h.2
          omega
        · simp at h
          have := far hL.tail pL h.2
          omega
    · split at h
      · rename_i h0 h1
        split at h
        · rename_i h2
          simp at h
          have := far hM.tail pM h.2.symm
          omega
        · split at h
          · rename_i h2 h3
            simp at h
            rw [same h.2.2, h1, h3, h.1]
          · simp at h
            omega
      · rename_i h0 h1
        split at h
        · rename_i h2
          simp at h
          have := far hM.tail pM h.2.symm
          omega
        · split at h
          · simp at h
            omega
          · simp at h
            rw [same h.2.2, h.1, h.2.1]

theorem good_rgs (p : Nat → Bool) : Good (rgs p 256) := ⟨(rgs_ok p 256).ord, (rgs_ok p 256).pair⟩

/-- The ranges' text tells the set. -/
theorem spans_inj {s t : ST} (hs : s.Ok) (ht : t.Ok) (h : spansT (rgs s.has 256) = spansT (rgs t.has 256)) : s = t := by
  have gs := good_rgs s.has
  have gt := good_rgs t.has
  rw [spans_enc _ gs, spans_enc _ gt] at h
  have e := toks_inj _ _ gs gt (enc_inj _ _ (toks_lt _ gs) (toks_lt _ gt) h)
  refine ST.ext hs ht fun b hb => ?_
  have m1 := (rgs_ok s.has 256).mem b
  have m2 := (rgs_ok t.has 256).mem b
  rw [e] at m1
  rw [Bool.eq_iff_iff]
  exact ⟨fun h => (m2.1 (m1.2 ⟨hb, h⟩)).2, fun h => (m1.1 (m2.2 ⟨hb, h⟩)).2⟩

theorem esc_heads : ∀ n, n < 256 → esc n ≠ [46] ∧ (esc n).head? ≠ some 91 ∧ (esc n).head? ≠ some 94 ∧ (esc n).length ≠ 0 := by decide +kernel

theorem esc_inj {n m : Nat} (hn : n < 256) (hm : m < 256) (h : esc n = esc m) : n = m := by
  have en : tk n = esc n := by rw [tk, if_neg (by omega)]
  have em : tk m = esc m := by rw [tk, if_neg (by omega)]
  exact (tk_inj (a := []) (b := []) (by omega) (by omega) (by rw [en, em, h])).1

theorem spans_head (L : List (Nat × Nat)) (h : Good L) (r : List UInt8) : spansT L ++ [93] ≠ 94 :: r := fun e => by
  match L, h, e with
  | [], _, e => simp [spansT] at e
  | (a, b) :: L, h, e =>
    have o := h.ord (a, b) (by simp)
    have hh := esc_heads a (by simp only at o; omega)
    have e2 := congrArg List.head? e
    have e3 : (spansT ((a, b) :: L) ++ [93]).head? = (esc a).head? := by
      have : ∃ x, spansT ((a, b) :: L) ++ [93] = esc a ++ x := by
        unfold spansT
        rw [List.flatMap_cons]
        unfold spanT
        split
        · exact ⟨_, by rw [List.append_assoc]⟩
        · split
          · exact ⟨_, by rw [List.append_assoc, List.append_assoc]⟩
          · exact ⟨_, by rw [List.append_assoc, List.append_assoc, List.append_assoc]⟩
      obtain ⟨x, hx⟩ := this
      rw [hx, List.head?_append]
      cases he : esc a with
      | nil => rw [he] at hh; simp at hh
      | cons c r => rfl
    rw [e3] at e2
    exact hh.2.2.1 e2

/-- A set of one byte. -/
theorem single {s : ST} (hs : s.Ok) (h : s.count = 1) : nxt s.has 0 < 256 ∧ s = .one (nxt s.has 0) := by
  have hn : nxt s.has 0 < 256 := (nxt_lt_iff s.has).2 (by have : s.count = cnt s.has 256 := rfl; omega)
  have nx := nxt_nx s.has 0 (by decide)
  refine ⟨hn, ST.ext hs (ST.one_ok _) fun b hb => ?_⟩
  rw [ST.has_one _ _ hb, Bool.eq_iff_iff, decide_eq_true_eq]
  exact ⟨fun hb' => cnt_one h hb hn hb' (nx.at' hn), fun e => by rw [e]; exact nx.at' hn⟩

theorem full {s : ST} (h : s.count = 256) (b : Nat) (hb : b < 256) : s.has b = true := cnt_all h b hb

/-- UNLIKE SETS HAVE UNLIKE TEXTS. -/
theorem text_inj {s t : ST} (hs : s.Ok) (ht : t.Ok) (h : textT s = textT t) : s = t := by
  unfold textT at h
  by_cases a1 : s.count = 256 <;> by_cases b1 : t.count = 256
  · exact ST.ext hs ht fun b hb => by rw [full a1 b hb, full b1 b hb]
  · rw [if_pos a1, if_neg b1] at h
    by_cases b2 : t.count = 1
    · rw [if_pos b2] at h
      exact absurd h.symm (esc_heads _ (single ht b2).1).1
    · rw [if_neg b2] at h
      split at h <;> simp at h
  · rw [if_neg a1, if_pos b1] at h
    by_cases a2 : s.count = 1
    · rw [if_pos a2] at h
      exact absurd h (esc_heads _ (single hs a2).1).1
    · rw [if_neg a2] at h
      split at h <;> simp at h
  · rw [if_neg a1, if_neg b1] at h
    by_cases a2 : s.count = 1 <;> by_cases b2 : t.count = 1
    · rw [if_pos a2, if_pos b2] at h
      have e1 := single hs a2
      have e2 := single ht b2
      have := esc_inj e1.1 e2.1 h
      rw [e1.2, e2.2, this]
    · rw [if_pos a2, if_neg b2] at h
      have e1 := (esc_heads _ (single hs a2).1).2.1
      rw [h] at e1
      split at e1 <;> simp at e1
    · rw [if_neg a2, if_pos b2] at h
      have e1 := (esc_heads _ (single ht b2).1).2.1
      rw [← h] at e1
      split at e1 <;> simp at e1
    · rw [if_neg a2, if_neg b2] at h
      by_cases a3 : s.count ≤ 128 <;> by_cases b3 : t.count ≤ 128
      · rw [if_pos a3, if_pos b3] at h
        injection h with _ h
        exact spans_inj hs ht (List.append_cancel_right h)
      · rw [if_pos a3, if_neg b3] at h
        injection h with _ h
        exact absurd h (spans_head _ (good_rgs _) _)
      · rw [if_neg a3, if_pos b3] at h
        injection h with _ h
        exact absurd h.symm (spans_head _ (good_rgs _) _)
      · rw [if_neg a3, if_neg b3] at h
        injection h with _ h
        injection h with _ h
        have := spans_inj (ST.not_ok s) (ST.not_ok t) (List.append_cancel_right h)
        rw [← ST.not_not hs, ← ST.not_not ht, this]

theorem cnt_single (x : Nat) : ∀ k, cnt (fun b => decide (b = x)) k = if x < k then 1 else 0
  | 0 => by simp [cnt]
  | k + 1 => by
    have i := cnt_single x k
    unfold cnt
    rw [i]
    by_cases h : k = x
    · subst h
      simp
    · simp only [h, decide_false, Bool.toNat_false, Nat.add_zero]
      by_cases h2 : x < k
      · rw [if_pos h2, if_pos (by omega)]
      · rw [if_neg h2, if_neg (by omega)]

/-- One byte's text is how it is written. -/
theorem text_one (x : Nat) (hx : x < 256) : textT (.one x) = esc x := by
  have hc : (ST.one x).count = 1 := by
    have : (ST.one x).count = cnt (fun b => decide (b = x)) 256 := cnt_congr fun b hb => ST.has_one x b hb
    rw [this, cnt_single, if_pos hx]
  have hn : x = nxt (ST.one x).has 0 := Nx.eq ⟨Nat.zero_le _, by omega, fun b _ hb => by rw [ST.has_one _ _ (by omega)]; exact decide_eq_false (by omega), fun _ => by rw [ST.has_one _ _ hx]; exact decide_eq_true rfl⟩
  unfold textT
  rw [if_neg (by omega), if_pos hc, ← hn]

end Go.Proofs.YtdiegmejkipacaaDoor.Bytes
