/- A set of package sparse: what it holds, and a contract for each of its calls but List, Sorted and Drop. -/
import Derived.Test.YtklknkeanmjhnaaBase
import Derived.Test.YtklknkeanmjhnaaMeterUse
namespace Go.Proofs.Ytklknkeanmjhnaa.Sparse
open Go.RowKit Go.Proofs.Ytklknkeanmjhnaa.Base Go.Proofs.Ytklknkeanmjhnaa.Meter

/-- Block b is a set over n that holds L, in this order; its two rows lie in block g. -/
structure St (w : World) (b g n : Nat) (L : List Nat) : Prop where
  nodup : L.Nodup
  lt : ∀ x ∈ L, x < n
  most : n ≤ 65536
  mem : ∃ o p cap cp, At w b 101 #[.slice o L.length cap, .slice p n cp] ∧
    (0 < n → o = some ⟨g, 0, none⟩ ∧ p = some ⟨g, n, none⟩ ∧ n = cap ∧ n = cp ∧ g ≠ b ∧ ∃ cur : Array Value, At w g 3 cur ∧ cur.size = 2 * n ∧
      (∀ j, j < 2 * n → ∃ k : Int, cur[j]? = some (.int .i64 k)) ∧ ∀ i x : Nat, L[i]? = some x → cur[i]? = some (.int .i64 x) ∧ cur[n + x]? = some (.int .i64 i))

theorem St.keep {S : Nat → Prop} {w w' : World} {b g n : Nat} {L : List Nat} (h : St w b g n L) (q : Keep S w w') (hb : ¬ S b) (hg : ¬ S g) : St w' b g n L := by
  obtain ⟨h1, h2, h3, o, p, cap, cp, ha, hr⟩ := h
  refine ⟨h1, h2, h3, o, p, cap, cp, ha.keep q hb, fun hn => ?_⟩
  obtain ⟨r1, r2, r3, r4, r5, cur, r6, r7⟩ := hr hn
  exact ⟨r1, r2, r3, r4, r5, cur, r6.keep q hg, r7⟩

theorem nodup_len : ∀ (n : Nat) (L : List Nat), L.Nodup → (∀ x ∈ L, x < n) → L.length ≤ n
  | 0, L, _, h => by
    cases L with
    | nil => simp
    | cons x _ => exact absurd (h x (by simp)) (by omega)
  | n + 1, L, hd, h => by
    have h1 := nodup_len n (L.erase n) (hd.erase n) (fun x hx => by
      have h2 := (List.Nodup.mem_erase_iff hd).1 hx
      have := h x h2.2
      have := h2.1
      omega)
    rw [List.length_erase] at h1
    split at h1 <;> omega

theorem St.len_le {w : World} {b g n : Nat} {L : List Nat} (h : St w b g n L) : L.length ≤ n := nodup_len n L h.nodup h.lt

/-- Is x one of 0 to n - 1? -/
def mayV (n : Nat) (x : Int) : Bool := decide (0 ≤ x) && decide (x < n)

theorem may_any (b g n : Nat) (L : List Nat) (x : Int) (w : World) (h : St w b g n L) :
    Calls Try.prog 62 #[ptr b, .int .i64 x] w fun e w' => e = .returned (.bool (mayV n x)) ∧ w = w' := by
  obtain ⟨h1, h2, h3, o, p, cap, cp, ha, hr⟩ := h
  have k1 : w.cell? ⟨b, 1, none⟩ = some (.slice p n cp) := ha.cell rfl
  unfold mayV
  by_cases h0 : 0 ≤ x
  · go_enter Try.func62, Try.ntmps62
    go_wp2
    go_ret
    exact ⟨by simp [h0], rfl⟩
  · have h0' : decide (0 ≤ x) = false := by simpa using h0
    go_enter Try.func62, Try.ntmps62
    go_wp2
    go_ret
    exact ⟨rfl, rfl⟩

theorem len_any (b g n : Nat) (L : List Nat) (w : World) (h : St w b g n L) :
    Calls Try.prog 38 #[ptr b] w fun e w' => e = .returned (.int .i64 L.length) ∧ w = w' := by
  obtain ⟨h1, h2, h3, o, p, cap, cp, ha, hr⟩ := h
  have k0 : w.cell? ⟨b, 0, none⟩ = some (.slice o L.length cap) := ha.cell rfl
  go_enter Try.func38, Try.ntmps38
  go_wp2
  go_ret
  exact ⟨rfl, rfl⟩

theorem len_nil (w : World) : Calls Try.prog 38 #[.pointer none] w fun e w' => e = .returned (.int .i64 0) ∧ w = w' := by
  go_enter Try.func38, Try.ntmps38
  go_wp2
  go_ret
  exact ⟨rfl, rfl⟩

/-- The one at a place; -1: there is none. -/
def atV (L : List Nat) (i : Int) : Int := if 0 ≤ i then (match L[i.toNat]? with | some x => (x : Int) | none => -1) else -1

theorem atV_some {L : List Nat} {i x : Nat} (h : L[i]? = some x) : atV L i = x := by
  unfold atV
  rw [if_pos (by omega), Int.toNat_natCast, h]

theorem at_nil (i : Int) (w : World) : Calls Try.prog 43 #[.pointer none, .int .i64 i] w fun e w' => e = .returned (.int .i64 (-1)) ∧ w = w' := by
  by_cases h0 : i < 0
  · go_enter Try.func43, Try.ntmps43
    go_wp2
    go_ret
    exact ⟨rfl, rfl⟩
  · have h0' : decide (i < 0) = false := by simpa using h0
    have h1 : 0 ≤ i := by omega
    go_enter Try.func43, Try.ntmps43
    go_wp2_with fail
    refine (len_nil _).mono ?_
    rintro e w1 ⟨rfl, rfl⟩
    go_wp2
    go_ret
    exact ⟨rfl, rfl⟩

theorem at_any (b g n : Nat) (L : List Nat) (i : Int) (w : World) (h : St w b g n L) :
    Calls Try.prog 43 #[ptr b, .int .i64 i] w fun e w' => e = .returned (.int .i64 (atV L i)) ∧ w = w' := by
  have hl := len_any b g n L w h
  have HL := Lib.hid hl
  clear hl
  by_cases h0 : i < 0
  · rw [show atV L i = -1 from by unfold atV; rw [if_neg (by omega)]]
    go_enter Try.func43, Try.ntmps43
    go_wp2
    go_ret
    exact ⟨rfl, rfl⟩
  · have h0' : decide (i < 0) = false := by simpa using h0
    obtain ⟨k, rfl⟩ : ∃ k : Nat, i = k := ⟨i.toNat, by omega⟩
    by_cases h4 : k < L.length
    · obtain ⟨h1, h2, h3, o, p, cap, cp, ha, hr⟩ := h
      have hx : L[k]? = some L[k] := List.getElem?_eq_getElem h4
      have hn : 0 < n := by have := h2 L[k] (List.getElem_mem h4); omega
      obtain ⟨rfl, rfl, rfl, rfl, r5, cur, r6, r7, r8, r9⟩ := hr hn
      rw [atV_some hx]
      have k0 : w.cell? ⟨b, 0, none⟩ = some (.slice (some ⟨g, 0, none⟩) L.length n) := ha.cell rfl
      have k1 : w.cell? ⟨g, k, none⟩ = some (.int .i64 L[k]) := r6.cell (r9 k _ hx).1
      generalize L[k] = x at *
      generalize L.length = len at *
      clear r9 r8 hr ha h1 h2 hx
      have h5 : (k : Int) < len := by omega
      go_enter Try.func43, Try.ntmps43
      go_wp2_with fail
      refine HL.out.mono ?_
      rintro e w1 ⟨rfl, rfl⟩
      go_wp2
      go_ret
      exact ⟨rfl, rfl⟩
    · rw [show atV L k = -1 from by unfold atV; rw [if_pos (by omega), Int.toNat_natCast, List.getElem?_eq_none (by omega)]]
      go_enter Try.func43, Try.ntmps43
      go_wp2_with fail
      refine HL.out.mono ?_
      rintro e w1 ⟨rfl, rfl⟩
      go_wp2
      go_ret
      exact ⟨rfl, rfl⟩

/-- Is x there? -/
def hasV (L : List Nat) (x : Int) : Bool := decide (0 ≤ x) && decide (x.toNat ∈ L)

theorem has_nil (x : Int) (w : World) : Calls Try.prog 36 #[.pointer none, .int .i64 x] w fun e w' => e = .returned (.bool false) ∧ w = w' := by
  go_enter Try.func36, Try.ntmps36
  go_wp2
  go_ret
  exact ⟨rfl, rfl⟩

theorem has_any (b g n : Nat) (L : List Nat) (x : Int) (w : World) (h : St w b g n L) :
    Calls Try.prog 36 #[ptr b, .int .i64 x] w fun e w' => e = .returned (.bool (hasV L x)) ∧ w = w' := by
  have hm := may_any b g n L x w h
  have HA := Lib.hid (fun i => at_any b g n L i w h)
  obtain ⟨h1, h2, h3, o, p, cap, cp, ha, hr⟩ := h
  by_cases h0 : 0 ≤ x ∧ x < n
  · obtain ⟨k, rfl⟩ : ∃ k : Nat, x = k := ⟨x.toNat, by omega⟩
    have hk : k < n := by omega
    obtain ⟨rfl, rfl, rfl, rfl, r5, cur, r6, r7, r8, r9⟩ := hr (by omega)
    obtain ⟨i, hi⟩ := r8 (n + k) (by omega)
    have k1 : w.cell? ⟨b, 1, none⟩ = some (.slice (some ⟨g, n, none⟩) n n) := ha.cell rfl
    have k2 : w.cell? ⟨g, n + k, none⟩ = some (.int .i64 i) := r6.cell hi
    have hv : mayV n k = true := by simp [mayV, hk]
    have he : (atV L i == (k : Int)) = hasV L k := by
      unfold hasV
      by_cases hL : k ∈ L
      · obtain ⟨j, hj, e⟩ := List.getElem_of_mem hL
        have hx : L[j]? = some k := by rw [List.getElem?_eq_getElem hj, e]
        have h5 := (r9 j k hx).2
        rw [hi] at h5
        cases h5
        simp [atV_some hx, hL]
      · have : atV L i ≠ k := by
          unfold atV
          split
          · split
            · rename_i y hy
              intro e
              have : y = k := by omega
              subst this
              exact hL (List.mem_of_getElem? hy)
            · omega
          · omega
        simp [this, hL]
    rw [hv] at hm
    rw [← he]
    have HM := Lib.hid hm
    clear r9 r8 hr ha h1 h2 he hm
    go_enter Try.func36, Try.ntmps36
    go_wp2_with fail
    refine HM.out.mono ?_
    rintro e w1 ⟨rfl, rfl⟩
    go_wp2_with fail
    refine (HA.out _).mono ?_
    rintro e w1 ⟨rfl, rfl⟩
    go_wp2
    go_ret
    exact ⟨rfl, rfl⟩
  · have hv : mayV n x = false := by simp [mayV]; omega
    have hx : hasV L x = false := by
      simp only [hasV, Bool.and_eq_false_iff, decide_eq_false_iff_not]
      by_cases h5 : 0 ≤ x
      · right
        intro h6
        have := h2 _ h6
        omega
      · exact .inl h5
    rw [hv] at hm
    rw [hx]
    have HM := Lib.hid hm
    clear hm
    go_enter Try.func36, Try.ntmps36
    go_wp2_with fail
    refine HM.out.mono ?_
    rintro e w1 ⟨rfl, rfl⟩
    go_wp2
    go_ret
    exact ⟨rfl, rfl⟩

end Go.Proofs.Ytklknkeanmjhnaa.Sparse
