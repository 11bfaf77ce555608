/- The document's Text (layer 8). -/
import Derived.Test.YthcjfgfbeollpaaKE37
import Derived.Test.YthcjfgfbeollpaaKE24
import Derived.Test.YthcjfgfbeollpaaKE15
import Derived.Test.YthcjfgfbeollpaaKE26
import Derived.Test.YthcjfgfbeollpaaKE05
namespace Go.Proofs.Ythcjfgfbeollpaa.P08
open Go.RowKit Go.Proofs.Ythcjfgfbeollpaa.Base Go.Proofs.Ythcjfgfbeollpaa.P07
open Go.Proofs.Ythcjfgfbeollpaa.Sets (ST rgs rgs_ok rgs_le)
open Go.Proofs.Ythcjfgfbeollpaa.Bytes (val)

/-! The same class, as layer 4 has it. -/
theorem esc_eq : ∀ b, b < 256 → P08.esc b = Bytes.esc b := by decide +kernel
theorem spanT_eq {a b : Nat} (h : a ≤ b) (hb : b < 256) : P08.spanT a b = Bytes.spanT a b := by
  unfold P08.spanT Bytes.spanT
  rw [esc_eq a (by omega), esc_eq b hb]
theorem spansT_eq : ∀ L : List (Nat × Nat), (∀ r, r ∈ L → r.1 ≤ r.2 ∧ r.2 < 256) → P08.spansT L = Bytes.spansT L
  | [], _ => rfl
  | r :: L, h => by
    have h1 := h r (by simp)
    rw [spansT_cons, spansT_eq L fun x hx => h x (List.mem_cons_of_mem _ hx), spanT_eq h1.1 h1.2]
    simp [Bytes.spansT]
theorem textT_eq {s : ST} (hs : s.Ok) : P08.textT s = Bytes.textT s := by
  unfold P08.textT Bytes.textT
  rw [spansT_eq _ (rgs_ok s.has 256).ord, spansT_eq _ (rgs_ok s.not.has 256).ord]
  by_cases h : s.count = 1
  · rw [esc_eq _ (single hs h).1]
  · rw [if_neg h, if_neg h]
theorem textT_len {s : ST} (hs : s.Ok) : (P08.textT s).length ≤ 2310 := by
  rw [textT_eq hs]
  unfold Bytes.textT
  have h1 := Bytes.spansT_len (rgs s.has 256)
  have h2 := rgs_le s.has 256
  have h3 := Bytes.spansT_len (rgs s.not.has 256)
  have h4 := rgs_le s.not.has 256
  split
  · simp
  · split
    · have := Bytes.esc_len (Sets.nxt s.has 0)
      omega
    · split
      · simp
        omega
      · simp
        omega
theorem times_len (lo hi : Int) : (times lo hi).length ≤ 7 := by
  unfold times
  have h1 := num_len lo.toNat
  have h2 := num_len hi.toNat
  split
  · simp
  · split
    · simp
    · split
      · simp
      · split
        · simp
          omega
        · split
          · simp
            omega
          · simp
            omega
theorem br_le (b : Bool) (u : List UInt8) : (br b u).length ≤ u.length + 2 := by
  cases b
  · simp [br]
  · simp [br]
mutual
/-- How long a text may be. -/
theorem txt_len : ∀ t : T, SOk t → (txt t).length + 3 ≤ 2400 * cnt t
  | .nd k s mn mx l, h => by
    rw [SOk] at h
    rw [txt_eq, cnt]
    have h1 := textT_len h.1
    have h2 := times_len mn mx
    have h3 := subT_len l k true h.2
    split
    · omega
    · rw [List.length_append]
      split
      · omega
      · simp
        omega
theorem subT_len : ∀ (l : List T) (k : Int) (b : Bool), SOkL l → (subT k b l).length ≤ 2400 * cntL l
  | [], k, b, _ => by rw [subT_nil]; simp
  | t :: l, k, b, h => by
    obtain ⟨h1, h2⟩ := SOk_cons h
    have h3 := txt_len t h1
    have h4 := subT_len l k false h2
    have h5 := br_le (rnd k t.kind) (txt t)
    rw [subT_cons, cntL, List.length_append, List.length_append]
    split
    · simp
      omega
    · simp
      omega
end
end Go.Proofs.Ythcjfgfbeollpaa.P08
/- Rules in memory (layer 8): a slice of rules at an address; one of the program's own. -/
namespace Go.Proofs.Ythcjfgfbeollpaa.P08
open Go.RowKit Go.Proofs.Ythcjfgfbeollpaa.Base Go.Proofs.Ythcjfgfbeollpaa.P07
open Go.Proofs.Ythcjfgfbeollpaa.Sets (ST)

/-- A rule, plain. -/
structure RU where
  nm : List UInt8
  re : T
/-- Its nine cells. -/
@[reducible] def rcells (x : RU) (a : Option Addr) (c : Nat) : Array Value := #[Bytes.str x.nm, .int .i64 x.re.kind, .int .u64 x.re.set.x0, .int .u64 x.re.set.x1, .int .u64 x.re.set.x2, .int .u64 x.re.set.x3, .int .i64 x.re.mn, .int .i64 x.re.mx, .slice a x.re.subs.length c]
/-- The rules L lie at a, in blocks that ok lets by. -/
def RS (w : World) (ok : Nat → Prop) (a : Option Addr) (L : List RU) : Prop :=
  L = [] ∨ ∃ (bl off : Nat) (A : Nat → Option Addr) (C : Nat → Nat), a = some ⟨bl, off, none⟩ ∧ bl < w.heap.size ∧ ok bl ∧ ∀ i x, L[i]? = some x → x.re.subs.length ≤ C i ∧ Lie w ok (A i) x.re.subs ∧ ∀ j v, (rcells x (A i) (C i))[j]? = some v → w.cell? ⟨bl, off + i * 9 + j, none⟩ = some v
theorem RS.keep {S : Nat → Prop} {w w' : World} {ok : Nat → Prop} (q : Keep S w w') (hS : ∀ b, ok b → ¬ S b) {a : Option Addr} {L : List RU} (h : RS w ok a L) : RS w' ok a L := by
  rcases h with h | ⟨bl, off, A, C, rfl, hb, hok, h⟩
  · exact .inl h
  · exact .inr ⟨bl, off, A, C, rfl, Nat.lt_of_lt_of_le hb q.size, hok, fun i x hx => ⟨(h i x hx).1, (h i x hx).2.1.keep q hS, fun j v hv => (q.cell (a := ⟨bl, off + i * 9 + j, none⟩) hb (hS bl hok)).trans ((h i x hx).2.2 j v hv)⟩⟩
theorem RS.keepF {w w' : World} {ok : Nat → Prop} (q : Keep (fun _ => False) w w') {a : Option Addr} {L : List RU} (h : RS w ok a L) : RS w' ok a L := h.keep q (fun _ _ h => h)
theorem RS.mono {w : World} {ok ok' : Nat → Prop} (hk : ∀ b, ok b → ok' b) {a : Option Addr} {L : List RU} (h : RS w ok a L) : RS w ok' a L := by
  rcases h with h | ⟨bl, off, A, C, rfl, hb, hok, h⟩
  · exact .inl h
  · exact .inr ⟨bl, off, A, C, rfl, hb, hk _ hok, fun i x hx => ⟨(h i x hx).1, (h i x hx).2.1.mono hk, (h i x hx).2.2⟩⟩
theorem RS.get {w : World} {ok : Nat → Prop} {a : Option Addr} {L : List RU} (h : RS w ok a L) {i : Nat} {x : RU} (hx : L[i]? = some x) :
    ∃ bl off a' c', a = some ⟨bl, off, none⟩ ∧ bl < w.heap.size ∧ ok bl ∧ x.re.subs.length ≤ c' ∧ Lie w ok a' x.re.subs ∧ ∀ j v, (rcells x a' c')[j]? = some v → w.cell? ⟨bl, off + i * 9 + j, none⟩ = some v := by
  rcases h with rfl | ⟨bl, off, A, C, rfl, hb, hok, h⟩
  · simp at hx
  · exact ⟨bl, off, A i, C i, rfl, hb, hok, (h i x hx).1, (h i x hx).2.1, (h i x hx).2.2⟩
@[reducible] def flatU (X : List (RU × Option Addr × Nat)) : List Value := X.flatMap fun x => (rcells x.1 x.2.1 x.2.2).toList
end Go.Proofs.Ythcjfgfbeollpaa.P08
