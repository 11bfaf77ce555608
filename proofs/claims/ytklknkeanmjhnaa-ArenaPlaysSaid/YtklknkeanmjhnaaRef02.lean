/- The document's own arena of layer 2, as it lies in memory, and its calls that change nothing. -/
import Derived.Test.YtklknkeanmjhnaaLaw02Kit
import Derived.Test.YtklknkeanmjhnaaLists
import Derived.LoopNIn
namespace Go.Proofs.Ytklknkeanmjhnaa.Ref02
open Go.RowKit Go.Proofs.Ytklknkeanmjhnaa.Base Go.Proofs.Ytklknkeanmjhnaa.Arena Go.Proofs.Ytklknkeanmjhnaa.Stretch Go.Proofs.Ytklknkeanmjhnaa.Regs Go.Proofs.Ytklknkeanmjhnaa.Law02

def rcells (r : Reg) : List Value := [.int .i64 r.id, .int .i64 r.base, .int .i64 r.n]

/-- The slice v holds the regions L. -/
def RL (w : World) (v : Value) (L : List Reg) : Prop := w.ownsRow 0 49 3 v L.length (L.flatMap rcells)

theorem flat_get : ∀ (L : List Reg) (i : Nat) (r : Reg), L[i]? = some r → (L.flatMap rcells)[i * 3]? = some (.int .i64 r.id) ∧ (L.flatMap rcells)[i * 3 + 1]? = some (.int .i64 r.base) ∧ (L.flatMap rcells)[i * 3 + 2]? = some (.int .i64 r.n)
  | [], i, r, h => by simp at h
  | x :: L, 0, r, h => by
    simp at h
    subst h
    simp [rcells]
  | x :: L, i + 1, r, h => by
    have := flat_get L i r (by simpa using h)
    rw [List.flatMap_cons]
    have hl : (rcells x).length = 3 := rfl
    refine ⟨?_, ?_, ?_⟩
    · rw [List.getElem?_append_right (by omega), hl, show (i + 1) * 3 - 3 = i * 3 from by omega]; exact this.1
    · rw [List.getElem?_append_right (by omega), hl, show (i + 1) * 3 + 1 - 3 = i * 3 + 1 from by omega]; exact this.2.1
    · rw [List.getElem?_append_right (by omega), hl, show (i + 1) * 3 + 2 - 3 = i * 3 + 2 from by omega]; exact this.2.2

theorem flat_len (L : List Reg) : (L.flatMap rcells).length = L.length * 3 := by
  induction L with
  | nil => rfl
  | cons x L ih => rw [List.flatMap_cons, List.length_append, ih, List.length_cons]; simp [rcells]; omega

theorem RL.nil (w : World) : RL w (.slice none 0 0) [] := ⟨rfl, .inl ⟨rfl, rfl⟩⟩

theorem RL.keep {S : Nat → Prop} {w w' : World} {v : Value} {L : List Reg} (h : RL w v L) (q : Keep S w w') (hn : ∀ g, v.ownBlock = some g → ¬ S g) : RL w' v L := by
  refine ⟨h.1, ?_⟩
  rcases h.2 with h | ⟨g, cap, cur, rfl, hb, hg, r⟩
  · exact .inl h
  · refine .inr ⟨g, cap, cur, rfl, hb, ?_, r⟩
    have : At w g 49 cur := hg
    exact this.keep q (hn g rfl)

theorem RL.lt {w : World} {v : Value} {L : List Reg} (h : RL w v L) {g : Nat} (hg : v.ownBlock = some g) : g < w.heap.size := by
  rcases h.2 with ⟨rfl, _⟩ | ⟨g', cap, cur, rfl, _, h1, _⟩
  · cases hg
  · cases hg
    exact (Array.getElem?_eq_some_iff.1 h1).1

theorem RL.form {w : World} {v : Value} {L : List Reg} (h : RL w v L) : ∃ a cap, v = .slice a L.length cap ∧ ∀ (i : Nat) (r : Reg), L[i]? = some r → ∃ u, a = some ⟨u, 0, none⟩ ∧ v.ownBlock = some u ∧ w.cell? ⟨u, i * 3, none⟩ = some (.int .i64 r.id) ∧ w.cell? ⟨u, i * 3 + 1, none⟩ = some (.int .i64 r.base) ∧ w.cell? ⟨u, i * 3 + 2, none⟩ = some (.int .i64 r.n) := by
  rcases h.2 with ⟨rfl, h0⟩ | ⟨g, cap, cur, rfl, _, hg, h1, h2, h3, h4⟩
  · refine ⟨none, 0, by rw [h0], fun i x hx => ?_⟩
    rw [List.eq_nil_of_length_eq_zero h0] at hx
    simp at hx
  · refine ⟨_, cap, rfl, fun i r hr => ⟨g, rfl, rfl, ?_⟩⟩
    have hi : i < L.length := (List.getElem?_eq_some_iff.1 hr).1
    have ha : At w g 49 cur := hg
    obtain ⟨f0, f1, f2⟩ := flat_get L i r hr
    have hk : ∀ j v, j < L.length * 3 → (L.flatMap rcells)[j]? = some v → cur[j]? = some v := fun j v hj hv => by
      rw [← h4, List.getElem?_take_of_lt hj] at hv
      simpa using hv
    exact ⟨ha.cell (hk _ _ (by omega) f0), ha.cell (hk _ _ (by omega) f1), ha.cell (hk _ _ (by omega) f2)⟩

/-- Block b holds the document's arena s; its cells lie in block g, its regions in lv. -/
structure RA (w : World) (b g : Nat) (lv : Value) (s : AS) (q : Int) : Prop where
  at_ : At w b 34 #[.int .i64 s.size, lv, .slice (some ⟨g, 0, none⟩) s.size s.size, .int .i64 s.last, .int .i64 s.used, .int .i64 q]
  rl : RL w lv s.L
  cr : ∃ cc : Array Value, At w g 3 cc ∧ cc.size = s.size ∧ ∀ p, p < s.size → cc[p]? = some (.int .i64 (s.C p))
  bg : b ≠ g
  ne : ∀ k, lv.ownBlock = some k → k ≠ b ∧ k ≠ g

theorem RA.keep {S : Nat → Prop} {w w' : World} {b g : Nat} {lv : Value} {s : AS} {q : Int} (h : RA w b g lv s q) (k : Keep S w w') (h1 : ¬ S b) (h2 : ¬ S g) (h3 : ∀ j, lv.ownBlock = some j → ¬ S j) : RA w' b g lv s q := by
  obtain ⟨cc, c1, c2⟩ := h.cr
  exact ⟨h.at_.keep k h1, h.rl.keep k h3, ⟨cc, c1.keep k h2, c2⟩, h.bg, h.ne⟩

theorem RA.quiet {w w' : World} {b g : Nat} {lv : Value} {s : AS} {q : Int} (h : RA w b g lv s q) (k : Keep (fun _ => False) w w') : RA w' b g lv s q := h.keep k id id (fun _ _ => id)

theorem find_none (b g : Nat) (lv : Value) (s : AS) (q : Int) (id : Int) (w : World) (h : RA w b g lv s q) (hl : s.L.length ≤ 1048576) (hn : Regs.look s.L id = none) :
    Calls Try.prog 54 #[ptr b, .int .i64 id] w fun e w' => e = .returned (.int .i64 (-1)) ∧ w = w' := by
  obtain ⟨a, cap, rfl, hc⟩ := h.rl.form
  have k1 : w.cell? ⟨b, 1, none⟩ = some (.slice a s.L.length cap) := h.at_.cell rfl
  have hno : ∀ r ∈ s.L, ¬ (r.id : Int) = id := fun r hr => by
    unfold Regs.look at hn
    simpa using List.find?_eq_none.1 hn r hr
  have HC := Lib.hid (And.intro hc hno)
  clear hc hno h hn
  generalize s.L = L at *
  go_enter Try.func54, Try.ntmps54
  go_wp2_with fail
  go_loop [5] (fun i => ∃ k : Nat, k ≤ L.length ∧ i = .int .i64 k) (fun i => L.length - (intOf i).toNat)
  case atStart => exact ⟨0, Nat.zero_le _, rfl⟩
  case round =>
    obtain ⟨k, hk, rfl⟩ := hrel
    by_cases hlt : k < L.length
    · obtain ⟨r, hr⟩ : ∃ r, L[k]? = some r := ⟨_, List.getElem?_eq_getElem hlt⟩
      obtain ⟨u, rfl, -, c0, -, -⟩ := HC.out.1 k r hr
      have hne : ((r.id : Int) == id) = false := by simpa using HC.out.2 r (List.mem_of_getElem? hr)
      have hlt' : (k : Int) < L.length := by omega
      clear hr
      go_wp2
      go_round
      case rel => exact ⟨k + 1, by omega, by go_num⟩
      case measure => simp [intOf]; omega
    · obtain rfl : k = L.length := by omega
      have hf : ¬ ((L.length : Int) < L.length) := by omega
      go_wp2
      go_ret
      exact ⟨rfl, rfl⟩

theorem find_some (b g : Nat) (lv : Value) (s : AS) (q : Int) (id : Int) (r : Reg) (w : World) (h : RA w b g lv s q) (hl : s.L.length ≤ 1048576) (hi : s.L.Pairwise fun a b => a.id < b.id) (hr : Regs.look s.L id = some r) :
    Calls Try.prog 54 #[ptr b, .int .i64 id] w fun e w' => ∃ k : Nat, e = .returned (.int .i64 k) ∧ s.L[k]? = some r ∧ w = w' := by
  obtain ⟨a, cap, rfl, hc⟩ := h.rl.form
  have k1 : w.cell? ⟨b, 1, none⟩ = some (.slice a s.L.length cap) := h.at_.cell rfl
  obtain ⟨hm, he⟩ := look_mem hr
  have HC := Lib.hid (And.intro hc (And.intro hi (And.intro hm he)))
  clear hc h hr hi hm he
  generalize s.L = L at *
  go_enter Try.func54, Try.ntmps54
  go_wp2_with fail
  go_loop [5] (fun i => ∃ k : Nat, k ≤ L.length ∧ i = .int .i64 k ∧ ∀ j y, j < k → L[j]? = some y → y ≠ r) (fun i => L.length - (intOf i).toNat)
  case atStart => exact ⟨0, Nat.zero_le _, rfl, fun j y hj => absurd hj (Nat.not_lt_zero _)⟩
  case round =>
    obtain ⟨k, hk, rfl, hno⟩ := hrel
    by_cases hlt : k < L.length
    · obtain ⟨y, hy⟩ : ∃ y, L[k]? = some y := ⟨_, List.getElem?_eq_getElem hlt⟩
      obtain ⟨u, rfl, -, c0, -, -⟩ := HC.out.1 k y hy
      have hlt' : (k : Int) < L.length := by omega
      by_cases e : (y.id : Int) = id
      · have hyr : y = r := by
          have h5 := look_self HC.out.2.1 (List.mem_of_getElem? hy)
          have h6 := look_self HC.out.2.1 HC.out.2.2.1
          have h7 := HC.out.2.2.2
          rw [e] at h5
          rw [h7] at h6
          rw [h5] at h6
          injection h6
        have HY := Lib.hid (show L[k]? = some r from by rw [hy, hyr])
        have e' : ((y.id : Int) == id) = true := by simpa using e
        clear hno hy hyr e
        go_wp2
        go_ret
        exact ⟨k, rfl, HY.out, rfl⟩
      · have e' : ((y.id : Int) == id) = false := by simpa using e
        have HN := Lib.hid (And.intro hno hy)
        clear hno hy
        go_wp2
        go_round
        case rel => exact ⟨k + 1, by omega, by go_num, fun j z hj hz => by
          by_cases e2 : j = k
          · subst e2
            rw [HN.out.2] at hz
            injection hz with hz
            subst hz
            intro e3
            exact e (by rw [e3]; exact HC.out.2.2.2)
          · exact HN.out.1 j z (by omega) hz⟩
        case measure => simp [intOf]; omega
    · obtain ⟨j, hj, e⟩ := List.getElem_of_mem HC.out.2.2.1
      exact absurd e (hno j _ (by omega) (List.getElem?_eq_getElem hj))

end Go.Proofs.Ytklknkeanmjhnaa.Ref02
