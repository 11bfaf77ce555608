/- The document's Text (layer 8). -/
import Derived.Test.YtfpijkcaceoboaaDoorKB36
import Derived.Test.YtfpijkcaceoboaaDoorKB26
import Derived.Test.YtfpijkcaceoboaaDoorKB16
import Derived.Test.YtfpijkcaceoboaaDoorKB27
import Derived.Test.YtfpijkcaceoboaaDoorKB05
import Derived.Test.YtfpijkcaceoboaaDoorKB21
namespace Go.Proofs.YtfpijkcaceoboaaDoor.P08
open Go.RowKit Go.Proofs.YtfpijkcaceoboaaDoor.Base Go.Proofs.YtfpijkcaceoboaaDoor.P07
open Go.Proofs.YtfpijkcaceoboaaDoor.Sets (ST rgs rgs_ok rgs_le)
open Go.Proofs.YtfpijkcaceoboaaDoor.Bytes (val)

/-! The same class, as layer 4 has it. -/
theorem esc_eq : ∀ b, b < 256 → P08.esc b = Bytes.esc b := by decide +kernel
theorem spanT_eq {a b : Nat} (h : a ≤ b) (hb : b < 256) : P08.spanT a b = Bytes.spanT a b := by
  unfold P08.spanT Bytes.spanT
  rw [esc_eq a (by omega), esc_eq b hb]
theorem spansT_eq : ∀ L : List (Nat × Nat), (∀ r, r ∈ L → r.1 ≤ r.2 ∧ r.2 < 256) → P08.spansT L = Bytes.spansT L
  | [], _ => rfl
  | r :: L, h => by
    have h1 := h r (by simp)
    rw [spansT_cons, spansT_eq L fun x hx => h x (List.mem_cons_of_mem _ hx), spanT_eq h1.1 h1.2]
    simp [Bytes.spansT]
theorem textT_eq {s : ST} (hs : s.Ok) : P08.textT s = Bytes.textT s := by
  unfold P08.textT Bytes.textT
  rw [spansT_eq _ (rgs_ok s.has 256).ord, spansT_eq _ (rgs_ok s.not.has 256).ord]
  by_cases h : s.count = 1
  · rw [esc_eq _ (single hs h).1]
  · rw [if_neg h, if_neg h]
theorem textT_len {s : ST} (hs : s.Ok) : (P08.textT s).length ≤ 2310 := by
  rw [textT_eq hs]
  unfold Bytes.textT
  have h1 := Bytes.spansT_len (rgs s.has 256)
  have h2 := rgs_le s.has 256
  have h3 := Bytes.spansT_len (rgs s.not.has 256)
  have h4 := rgs_le s.not.has 256
  split
  · simp
  · split
    · have := Bytes.esc_len (Sets.nxt s.has 0)
      omega
    · split
      · simp
        omega
      · simp
        omega
theorem times_len (lo hi : Int) : (times lo hi).length ≤ 7 := by
  unfold times
  have h1 := num_len lo.toNat
  have h2 := num_len hi.toNat
  split
  · simp
  · split
    · simp
    · split
      · simp
      · split
        · simp
          omega
        · split
          · simp
            omega
          · simp
            omega
theorem br_le (b : Bool) (u : List UInt8) : (br b u).length ≤ u.length + 2 := by
  cases b
  · simp [br]
  · simp [br]
mutual
/-- How long a text may be. -/
theorem txt_len : ∀ t : T, SOk t → (txt t).length + 3 ≤ 2400 * cnt t
  | .nd k s mn mx l, h => by
    rw [SOk] at h
    rw [txt_eq, cnt]
    have h1 := textT_len h.1
    have h2 := times_len mn mx
    have h3 := subT_len l k true h.2
    split
    · omega
    · rw [List.length_append]
      split
      · omega
      · simp
        omega
theorem subT_len : ∀ (l : List T) (k : Int) (b : Bool), SOkL l → (subT k b l).length ≤ 2400 * cntL l
  | [], k, b, _ => by rw [subT_nil]; simp
  | t :: l, k, b, h => by
    obtain ⟨h1, h2⟩ := SOk_cons h
    have h3 := txt_len t h1
    have h4 := subT_len l k false h2
    have h5 := br_le (rnd k t.kind) (txt t)
    rw [subT_cons, cntL, List.length_append, List.length_append]
    split
    · simp
      omega
    · simp
      omega
end
end Go.Proofs.YtfpijkcaceoboaaDoor.P08
/- Rules in memory (layer 8): a slice of rules at an address; one of the program's own. -/
namespace Go.Proofs.YtfpijkcaceoboaaDoor.P08
open Go.RowKit Go.Proofs.YtfpijkcaceoboaaDoor.Base Go.Proofs.YtfpijkcaceoboaaDoor.P07
open Go.Proofs.YtfpijkcaceoboaaDoor.Sets (ST)

/-- A rule, plain. -/
structure RU where
  nm : List UInt8
  re : T
/-- Its nine cells. -/
@[reducible] def rcells (x : RU) (a : Option Addr) (c : Nat) : Array Value := #[Bytes.str x.nm, .int .i64 x.re.kind, .int .u64 x.re.set.x0, .int .u64 x.re.set.x1, .int .u64 x.re.set.x2, .int .u64 x.re.set.x3, .int .i64 x.re.mn, .int .i64 x.re.mx, .slice a x.re.subs.length c]
theorem infoU : (Tryd.prog.info? 44).map (fun i => (i.zero, i.size, i.bytes)) = some (some (.agg #[.string ⟨#[]⟩, .int .i64 0, .int .u64 0, .int .u64 0, .int .u64 0, .int .u64 0, .int .i64 0, .int .i64 0, .slice none 0 0]), 9, 96) := by kernel_rfl

/-- The rules L lie at a, in blocks that ok lets by. -/
def RS (w : World) (ok : Nat → Prop) (a : Option Addr) (L : List RU) : Prop :=
  L = [] ∨ ∃ (bl off : Nat) (A : Nat → Option Addr) (C : Nat → Nat), a = some ⟨bl, off, none⟩ ∧ bl < w.heap.size ∧ ok bl ∧ ∀ i x, L[i]? = some x → x.re.subs.length ≤ C i ∧ Lie w ok (A i) x.re.subs ∧ ∀ j v, (rcells x (A i) (C i))[j]? = some v → w.cell? ⟨bl, off + i * 9 + j, none⟩ = some v
theorem RS.keep {S : Nat → Prop} {w w' : World} {ok : Nat → Prop} (q : Keep S w w') (hS : ∀ b, ok b → ¬ S b) {a : Option Addr} {L : List RU} (h : RS w ok a L) : RS w' ok a L := by
  rcases h with h | ⟨bl, off, A, C, rfl, hb, hok, h⟩
  · exact .inl h
  · exact .inr ⟨bl, off, A, C, rfl, Nat.lt_of_lt_of_le hb q.size, hok, fun i x hx => ⟨(h i x hx).1, (h i x hx).2.1.keep q hS, fun j v hv => (q.cell (a := ⟨bl, off + i * 9 + j, none⟩) hb (hS bl hok)).trans ((h i x hx).2.2 j v hv)⟩⟩
theorem RS.keepF {w w' : World} {ok : Nat → Prop} (q : Keep (fun _ => False) w w') {a : Option Addr} {L : List RU} (h : RS w ok a L) : RS w' ok a L := h.keep q (fun _ _ h => h)
theorem RS.mono {w : World} {ok ok' : Nat → Prop} (hk : ∀ b, ok b → ok' b) {a : Option Addr} {L : List RU} (h : RS w ok a L) : RS w ok' a L := by
  rcases h with h | ⟨bl, off, A, C, rfl, hb, hok, h⟩
  · exact .inl h
  · exact .inr ⟨bl, off, A, C, rfl, hb, hk _ hok, fun i x hx => ⟨(h i x hx).1, (h i x hx).2.1.mono hk, (h i x hx).2.2⟩⟩
theorem RS.get {w : World} {ok : Nat → Prop} {a : Option Addr} {L : List RU} (h : RS w ok a L) {i : Nat} {x : RU} (hx : L[i]? = some x) :
    ∃ bl off a' c', a = some ⟨bl, off, none⟩ ∧ bl < w.heap.size ∧ ok bl ∧ x.re.subs.length ≤ c' ∧ Lie w ok a' x.re.subs ∧ ∀ j v, (rcells x a' c')[j]? = some v → w.cell? ⟨bl, off + i * 9 + j, none⟩ = some v := by
  rcases h with rfl | ⟨bl, off, A, C, rfl, hb, hok, h⟩
  · simp at hx
  · exact ⟨bl, off, A i, C i, rfl, hb, hok, (h i x hx).1, (h i x hx).2.1, (h i x hx).2.2⟩
/-- Its cells, one by one. -/
theorem rnine {w : World} {bl o : Nat} {x : RU} {a : Option Addr} {c : Nat} (h : ∀ j v, (rcells x a c)[j]? = some v → w.cell? ⟨bl, o + j, none⟩ = some v) :
    w.cell? ⟨bl, o, none⟩ = some (Bytes.str x.nm) ∧ w.cell? ⟨bl, o + 1, none⟩ = some (.int .i64 x.re.kind) ∧ w.cell? ⟨bl, o + 1 + 1, none⟩ = some (.int .u64 x.re.set.x0) ∧ w.cell? ⟨bl, o + 1 + 2, none⟩ = some (.int .u64 x.re.set.x1) ∧ w.cell? ⟨bl, o + 1 + 3, none⟩ = some (.int .u64 x.re.set.x2) ∧ w.cell? ⟨bl, o + 1 + 4, none⟩ = some (.int .u64 x.re.set.x3) ∧ w.cell? ⟨bl, o + 1 + 5, none⟩ = some (.int .i64 x.re.mn) ∧ w.cell? ⟨bl, o + 1 + 6, none⟩ = some (.int .i64 x.re.mx) ∧ w.cell? ⟨bl, o + 1 + 7, none⟩ = some (.slice a x.re.subs.length c) :=
  ⟨h 0 _ rfl, h 1 _ rfl, h 2 _ rfl, h 3 _ rfl, h 4 _ rfl, h 5 _ rfl, h 6 _ rfl, h 7 _ rfl, h 8 _ rfl⟩

@[reducible] def flatU (X : List (RU × Option Addr × Nat)) : List Value := X.flatMap fun x => (rcells x.1 x.2.1 x.2.2).toList
theorem flatU_at : ∀ (X : List (RU × Option Addr × Nat)) (i : Nat) (x : RU × Option Addr × Nat), X[i]? = some x → ∀ j v, (rcells x.1 x.2.1 x.2.2)[j]? = some v → (flatU X)[i * 9 + j]? = some v
  | [], i, x, h, _, _, _ => by simp at h
  | y :: X, 0, x, h, j, v, hv => by
    simp at h
    subst h
    have e : flatU (y :: X) = (rcells y.1 y.2.1 y.2.2).toList ++ flatU X := rfl
    have hj : j < 9 := (Array.getElem?_eq_some_iff.1 hv).1
    rw [e, Nat.zero_mul, Nat.zero_add, List.getElem?_append_left (by simpa using hj)]
    simpa using hv
  | y :: X, i + 1, x, h, j, v, hv => by
    have ih := flatU_at X i x (by simpa using h) j v hv
    have e : flatU (y :: X) = (rcells y.1 y.2.1 y.2.2).toList ++ flatU X := rfl
    rw [e, List.getElem?_append_right (by simp; omega), ← ih]
    congr 1
    simp
    omega

/-- The slice v is a list of the rules X, of the program's own, in a block that ok lets by; their parts lie in other blocks. -/
def OUX (w : World) (ok : Nat → Prop) (v : Value) (X : List (RU × Option Addr × Nat)) : Prop :=
  w.ownsRow 0 44 9 v X.length (flatU X) ∧ (∀ g, v.ownBlock = some g → ok g) ∧ ∀ x ∈ X, x.1.re.subs.length ≤ x.2.2 ∧ Lie w (fun k => ok k ∧ v.ownBlock ≠ some k) x.2.1 x.1.re.subs
def OU (w : World) (ok : Nat → Prop) (v : Value) (L : List RU) : Prop := ∃ X, OUX w ok v X ∧ X.map (·.1) = L
theorem OU.nil (w : World) (ok : Nat → Prop) : OU w ok (.slice none 0 0) [] := ⟨[], ⟨⟨rfl, .inl ⟨rfl, rfl⟩⟩, fun g hg => (by cases hg), by simp⟩, rfl⟩
theorem OU.keep {S : Nat → Prop} {w w' : World} {ok : Nat → Prop} {v : Value} {L : List RU} (h : OU w ok v L) (q : Keep S w w') (hS : ∀ b, ok b → ¬ S b) : OU w' ok v L := by
  obtain ⟨X, ⟨h1, h2, h3⟩, h4⟩ := h
  refine ⟨X, ⟨⟨h1.1, ?_⟩, h2, fun x hx => ⟨(h3 x hx).1, (h3 x hx).2.keep q (fun b hb => hS b hb.1)⟩⟩, h4⟩
  rcases h1.2 with h | ⟨g, cap, cur, rfl, hb, hg, r⟩
  · exact .inl h
  · refine .inr ⟨g, cap, cur, rfl, hb, ?_, r⟩
    have : At w g 44 cur := hg
    exact this.keep q (hS g (h2 g rfl))
theorem OU.keepF {w w' : World} {ok : Nat → Prop} {v : Value} {L : List RU} (h : OU w ok v L) (q : Keep (fun _ => False) w w') : OU w' ok v L := h.keep q (fun _ _ h => h)
/-- As an argument. -/
theorem OU.form {w : World} {ok : Nat → Prop} {v : Value} {L : List RU} (h : OU w ok v L) : ∃ a cap, v = .slice a L.length cap ∧ L.length ≤ cap ∧ RS w ok a L := by
  obtain ⟨X, ⟨h1, h2, h3⟩, rfl⟩ := h
  rcases h1.2 with ⟨rfl, h0⟩ | ⟨g, cap, cur, rfl, _, hg, h5, h6, h7, h8⟩
  · have e : X = [] := List.eq_nil_of_length_eq_zero h0
    subst e
    exact ⟨none, 0, rfl, Nat.zero_le _, .inl rfl⟩
  · have ha : At w g 44 cur := hg
    refine ⟨_, cap, by rw [List.length_map], by rw [List.length_map]; exact h5, .inr ⟨g, 0, (fun i => (X[i]?.map (·.2.1)).getD none), (fun i => (X[i]?.map (·.2.2)).getD 0), rfl, ha.lt, h2 g rfl, fun i t ht => ?_⟩⟩
    rw [List.getElem?_map] at ht
    obtain ⟨x, hx, rfl⟩ := Option.map_eq_some_iff.1 ht
    simp only [hx, Option.map_some, Option.getD_some]
    refine ⟨(h3 x (List.mem_of_getElem? hx)).1, (h3 x (List.mem_of_getElem? hx)).2.mono (fun _ h => h.1), fun j v hv => ?_⟩
    have hj : j < 9 := (Array.getElem?_eq_some_iff.1 hv).1
    have hi : i < X.length := (List.getElem?_eq_some_iff.1 hx).1
    refine ha.cell ?_
    have h9 := flatU_at X i x hx j v hv
    have h10 : (cur.toList.take (X.length * 9))[i * 9 + j]? = (flatU X)[i * 9 + j]? := by rw [h8]
    rw [List.getElem?_take_of_lt (by omega), h9] at h10
    rw [Nat.zero_add]
    simpa using h10

/-- append of one rule, laid by the call itself. -/
theorem OU.push {w : World} {ok : Nat → Prop} {v : Value} {L : List RU} (h : OU w ok v L) (t : RU) (a : Option Addr) (c : Nat) (hc : t.re.subs.length ≤ c) (hl : Lie w (fun k => ok k ∧ v.ownBlock ≠ some k) a t.re.subs)
    (hlen : (L.length + 1) * 96 ≤ 140737488355328) (hok : ∀ g, w.heap.size ≤ g → ok g) (ty : TypeId) :
    ∃ v' w', (Builtin.append_ #[41, 41] ty #[v, .slice (some ⟨w.heap.size, 0, none⟩) 1 1]).run Tryd.prog (w.alloc (.cells (rcells t a c) 44)) = .ok v' w' ∧ OU w' ok v' (L ++ [t]) ∧ Keep (fun b => v.ownBlock = some b) w w' ∧ (∀ g, v'.ownBlock = some g → v.ownBlock = some g ∨ w.heap.size ≤ g) := by
  obtain ⟨X, ⟨h1, h2, h3⟩, rfl⟩ := h
  have qa := (Keep.refl (fun _ => False) w).alloc (.cells (rcells t a c) 44)
  have ha := At.new w (rcells t a c) 44
  have hown : (w.alloc (.cells (rcells t a c) 44)).ownsRow 0 44 9 v X.length (flatU X) := by
    refine ⟨h1.1, ?_⟩
    rcases h1.2 with h | ⟨g, cap, cur, rfl, hb, hg, r⟩
    · exact .inl h
    · refine .inr ⟨g, cap, cur, rfl, hb, ?_, r⟩
      have : At w g 44 cur := hg
      exact this.keep qa (fun h => h)
  obtain ⟨i0, hi0, hz0, hz1, hz2⟩ := info_parts infoU
  rw [List.length_map] at hlen
  obtain ⟨v', w', hrun, g2, g3, _, g5⟩ := run_append_own_at (P := Tryd.prog) (w.alloc (.cells (rcells t a c) 44)) 0 41 ty 44 i0 (.agg #[.string ⟨#[]⟩, .int .i64 0, .int .u64 0, .int .u64 0, .int .u64 0, .int .u64 0, .int .i64 0, .int .i64 0, .slice none 0 0]) 9 96 Tryd.underlying41 hi0 hz0 hz1 hz2 rfl (by omega) v X.length (flatU X) hown ⟨w.heap.size, 0, none⟩ 1 1 (rcells t a c).toList rfl
    (fun j u hu => by
      have := ha.cell (o := j) (v := u) (by simpa using hu)
      have e : (⟨w.heap.size, 0, none⟩ : Addr).add j = ⟨w.heap.size, j, none⟩ := by
        unfold Addr.add
        split
        · rename_i hz
          rw [hz]
        · simp
      rw [e]
      exact this)
    (by intro u hu; simp at hu; rcases hu with rfl | rfl | rfl | rfl | rfl | rfl | rfl | rfl | rfl <;> rfl) (by simp only [maxLen]; omega) (by omega) (Nat.zero_le _)
  have q : Keep (fun b => v.ownBlock = some b) w w' := (qa.mono (fun _ h => h.elim)).trans (nkeep_grown g3)
  have hbl : ∀ g, v'.ownBlock = some g → v.ownBlock = some g ∨ w.heap.size ≤ g := fun g hg => by
    rcases g5 with g5 | g5
    · exact .inl (by rw [← g5]; exact hg)
    · rw [g5] at hg
      injection hg with hg
      simp at hg
      exact .inr (by omega)
  have hlie : ∀ {a : Option Addr} {M : List T}, Lie w (fun k => ok k ∧ v.ownBlock ≠ some k) a M → Lie w' (fun k => ok k ∧ v'.ownBlock ≠ some k) a M := fun {a M} h => by
    have h1 : Lie w (fun k => (ok k ∧ v.ownBlock ≠ some k) ∧ k < w.heap.size) a M := by
      induction h with
      | nil a => exact .nil a
      | cons bl off L A C hL hb hok hC hc _ ih => exact .cons bl off L A C hL hb ⟨hok, hb⟩ hC hc ih
    refine (h1.keep q (fun b hb e => hb.1.2 e)).mono (fun k hk => ⟨hk.1.1, fun e => ?_⟩)
    rcases hbl k e with h | h
    · exact hk.1.2 h
    · have := hk.2
      omega
  refine ⟨v', w', hrun, ⟨X ++ [(t, a, c)], ⟨?_, fun g hg => ?_, fun x hx => ?_⟩, by simp⟩, q, hbl⟩
  · rw [List.length_append]
    have e : flatU (X ++ [(t, a, c)]) = flatU X ++ (rcells t a c).toList := by
      unfold flatU
      rw [List.flatMap_append]
      simp
    rw [e]
    exact g2
  · rcases hbl g hg with h | h
    · exact h2 g h
    · exact hok g h
  · rcases List.mem_append.1 hx with hx | hx
    · exact ⟨(h3 x hx).1, hlie (h3 x hx).2⟩
    · rw [List.mem_singleton.1 hx]
      exact ⟨hc, hlie hl⟩
end Go.Proofs.YtfpijkcaceoboaaDoor.P08
/- The document's FewRules (layer 8), wanted by layer 11's laws. -/
namespace Go.Proofs.YtfpijkcaceoboaaDoor.P11
open Go.RowKit Go.Proofs.YtfpijkcaceoboaaDoor.Base Go.Proofs.YtfpijkcaceoboaaDoor.P07 Go.Proofs.YtfpijkcaceoboaaDoor.P08
open Go.Proofs.YtfpijkcaceoboaaDoor.Sets (ST)

def fewU (x : RU) : Bool := decide (sz x.re ≤ 200) && decide (x.nm.length ≤ 300)
def fewR (L : List RU) : Bool := L.all fewU && decide (L.length ≤ 20)

set_option maxRecDepth 100000 in
set_option maxHeartbeats 4000000 in
theorem ffew_any (L : List RU) (a : Option Addr) (cap : Nat) (hl : L.length ≤ 9223372036854775807) (hb : ∀ x ∈ L, cnt x.re ≤ 1000000000) (w : World) (hS : RS w (fun _ => True) a L) :
    Calls Tryd.prog 22 #[.slice a L.length cap] w fun e w' => e = .returned (.bool (fewR L)) ∧ Keep (fun _ => False) w w' := by
  have H0 := Lib.hid (And.intro hS hb)
  clear hS hb
  go_enter Tryd.func22, Tryd.ntmps22
  go_wp2_with fail
  go_loopg [3] L.length (fun gg i wr => ∃ k : Nat, i = .int .i64 k ∧ k + gg = L.length ∧ (L.take k).all fewU = true ∧ Keep (fun _ => False) w wr)
  case atStart => exact ⟨0, rfl, by omega, rfl, Keep.refl _ _⟩
  case round =>
    obtain ⟨k, rfl, hk, hall, hq⟩ := hrel
    by_cases hlt : k < L.length
    · have hlt' : (k : Int) < L.length := by omega
      have i0 : (0 : Int) ≤ k := by omega
      obtain ⟨x, hx⟩ : ∃ x, L[k]? = some x := ⟨L[k], List.getElem?_eq_getElem hlt⟩
      have hSw := H0.out.1.keepF hq
      obtain ⟨bl, off, a1, e1, rfl, hbl, -, hle, L1, C1⟩ := hSw.get hx
      obtain ⟨c0, c1, c2, c3, c4, c5, c6, c7, c8⟩ := rnine C1
      have hcall := few_any x.re (H0.out.2 x (List.mem_of_getElem? hx)) a1 e1 wr L1
      have hns := P07.size_str x.nm
      have hnext : (L.take (k + 1)).all fewU = ((L.take k).all fewU && fewU x) := by
        rw [List.take_add_one, hx, List.all_append]
        simp
      rw [hall, Bool.true_and] at hnext
      have hfu : fewU x = (decide (sz x.re ≤ 200) && decide (x.nm.length ≤ 300)) := rfl
      rw [hfu] at hnext
      clear hfu
      obtain ⟨r, hr⟩ : ∃ r, decide (sz x.re ≤ 200) = r := ⟨_, rfl⟩
      rw [hr] at hcall hnext
      have hno : (L.take (k + 1)).all fewU = false → fewR L = false := fun h => by
        unfold fewR
        rw [Bool.and_eq_false_iff]
        left
        rw [← Bool.not_eq_true] at h ⊢
        intro hh
        exact h (List.all_eq_true.2 fun y hy => List.all_eq_true.1 hh y (List.mem_of_mem_take hy))
      have HQ := Lib.hid (And.intro hcall (And.intro hnext (And.intro hno (And.intro hq (fun W (q : Keep (fun _ => False) wr W) j v (hv : (rcells x a1 e1)[j]? = some v) => (q.cell (a := ⟨bl, off + k * 9 + j, none⟩) hbl (fun h => h)).trans (C1 j v hv))))))
      clear hcall hnext hno hq hSw C1 L1 hle hbl hx hr hall
      go_wp2_with fail
      refine HQ.out.1.mono ?_
      rintro e w2 ⟨rfl, q2⟩
      cases r with
      | false =>
        have Q2 := Lib.hid (HQ.out.2.2.2.1.trans q2)
        clear q2 c0 c1 c2 c3 c4 c5 c6 c7 c8
        have hf := HQ.out.2.2.1 (by rw [HQ.out.2.1]; rfl)
        have HFF := Lib.hid hf
        clear hf
        go_wp2_with fail
        go_ret
        exact ⟨by rw [HFF.out]; rfl, Q2.out⟩
      | true =>
        clear c0 c1 c2 c3 c4 c5 c6 c7 c8
        obtain ⟨c0, c1, c2, c3, c4, c5, c6, c7, c8⟩ := rnine (HQ.out.2.2.2.2 w2 q2)
        have Q2 := Lib.hid (HQ.out.2.2.2.1.trans q2)
        clear q2
        by_cases hn : x.nm.length ≤ 300
        · have hn' : ¬ (300 : Int) < x.nm.length := by omega
          have HN := Lib.hid hn
          clear hn
          go_wp2_with fail
          go_roundg (L.length - (k + 1))
          case measure => omega
          case rel => exact ⟨k + 1, by go_num, by omega, by rw [HQ.out.2.1, decide_eq_true HN.out]; rfl, Q2.out⟩
        · have hn' : (300 : Int) < x.nm.length := by omega
          have hf := HQ.out.2.2.1 (by rw [HQ.out.2.1, decide_eq_false hn]; rfl)
          have HFF := Lib.hid hf
          clear hf hn
          go_wp2_with fail
          go_ret
          exact ⟨by rw [HFF.out]; rfl, Q2.out⟩
    · have hke : k = L.length := by omega
      subst hke
      rw [List.take_length] at hall
      have HQ := Lib.hid (And.intro hall hq)
      clear hall hq
      go_wp2_with fail
      go_ret
      refine ⟨?_, HQ.out.2⟩
      unfold fewR
      rw [HQ.out.1, Bool.true_and]
      have e : decide (L.length ≤ 20) = decide ((L.length : Int) ≤ 20) := by
        rw [decide_eq_decide]
        omega
      rw [e]
      rfl
end Go.Proofs.YtfpijkcaceoboaaDoor.P11
