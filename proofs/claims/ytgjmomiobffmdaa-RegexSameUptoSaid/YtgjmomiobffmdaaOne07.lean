/- The document's parser (layer 7): must, hex, digit, in, plain, one. -/
import Derived.Test.YtgjmomiobffmdaaPr07
namespace Go.Proofs.Ytgjmomiobffmdaa.P07
open Go.RowKit Go.Proofs.Ytgjmomiobffmdaa.Base

theorem next_is {b : Nat} {l : List UInt8} {s : PS} {c : Int} (h : nxt l s = c) (w : World) (hp : Pr w b l s) :
    Calls Try.prog 26 #[.pointer (some ⟨b, 0, none⟩)] w fun e w' => e = .returned (.int .i64 c) ∧ Keep (fun _ => False) w w' := by
  rw [← h]
  exact next_any b l s w hp

theorem upk {w w' : World} (b : Nat) (q : Keep (fun _ => False) w w') : Keep (fun i => i = b) w w' := q.mono (fun _ h => h.elim)

theorem must_any (b : Nat) (l : List UInt8) (s : PS) (c : Int) (hs : s.pos ≤ 100000000) (w : World) (h : Pr w b l s) :
    Calls Try.prog 38 #[.pointer (some ⟨b, 0, none⟩), .int .i64 c] w fun e w' => e = .returned (.tuple #[]) ∧ Pr w' b l (must c l s).2 ∧ Keep (fun i => i = b) w w' := by
  have hn := next_is (l := l) (s := s) rfl w h
  have hw : IntKind.i64.wrap ((s.pos : Int) + 1) = (s.pos : Int) + 1 := by rw [IntKind.wrap_i64]; omega
  by_cases he : nxt l s = c
  · have hm : (must c l s).2 = s.adv := by unfold must; rw [if_pos he]
    rw [hm]
    rw [he] at hn
    have H := Lib.hid (And.intro h hn)
    clear h hn hm he
    go_enter Try.func38, Try.ntmps38
    go_wp2_with fail
    refine H.out.2.mono ?_
    rintro e w1 ⟨rfl, q1⟩
    have h1 := H.out.1.keep q1 (fun h => h)
    have c1 : w1.cell? ⟨b, 1, none⟩ = some (.int .i64 s.pos) := At.cell h1 (o := 1) rfl
    have f1 := At.frozen h1 1
    have H1 := Lib.hid (And.intro h1 q1)
    clear h1 q1
    go_wp2_with fail
    go_end0
    exact ⟨rfl, At.set H1.out.1 1 (.int .i64 ((s.pos : Int) + 1)), (upk b H1.out.2).setCell (p := ⟨b, 1, none⟩) (fun _ => rfl) _⟩
  · have hm : (must c l s).2 = (s.fail s.pos).adv := by unfold must; rw [if_neg he]
    have hne : (nxt l s != c) = true := by simpa using he
    have hpos : (s.fail s.pos).pos = s.pos := by unfold PS.fail; split <;> rfl
    rw [hm]
    obtain ⟨x, hx⟩ : ∃ x, nxt l s = x := ⟨_, rfl⟩
    rw [hx] at hn hne
    obtain ⟨s2, hs2⟩ : ∃ s2, s.fail s.pos = s2 := ⟨_, rfl⟩
    have hf := fun w hp => fail_any b l s s.pos w hp
    rw [hs2] at hpos hf ⊢
    have H := Lib.hid (And.intro h (And.intro hn (And.intro hf hpos)))
    clear h hn hm he hf hpos hs2 hx
    go_enter Try.func38, Try.ntmps38
    go_wp2_with fail
    refine H.out.2.1.mono ?_
    rintro e w1 ⟨rfl, q1⟩
    have h1 := H.out.1.keep q1 (fun h => h)
    have c1 : w1.cell? ⟨b, 1, none⟩ = some (.int .i64 s.pos) := At.cell h1 (o := 1) rfl
    have H1 := Lib.hid (And.intro h1 q1)
    clear h1 q1
    go_wp2_with fail
    refine (H.out.2.2.1 _ H1.out.1).mono ?_
    rintro e w2 ⟨rfl, h2, q2⟩
    have c2 : w2.cell? ⟨b, 1, none⟩ = some (.int .i64 (s2.pos : Int)) := At.cell h2 (o := 1) rfl
    rw [H.out.2.2.2] at c2
    have f2 := At.frozen h2 1
    have H2 := Lib.hid (And.intro h2 ((upk b H1.out.2).trans q2))
    clear h2 q2 c1
    go_wp2_with fail
    go_end0
    refine ⟨rfl, ?_, H2.out.2.setCell (p := ⟨b, 1, none⟩) (fun _ => rfl) _⟩
    have := At.set H2.out.1 1 (.int .i64 ((s.pos : Int) + 1))
    unfold Pr PS.adv
    rw [H.out.2.2.2]
    exact this

def hexs : List UInt8 := [48, 49, 50, 51, 52, 53, 54, 55, 56, 57, 97, 98, 99, 100, 101, 102]
theorem hexs_at : ∀ k, k < 16 → hexv (byteAt hexs k) = k := by decide +kernel
theorem hexv_ge (c : Int) : -1 ≤ hexv c ∧ hexv c ≤ 15 := by
  unfold hexv
  split
  · omega
  · split <;> omega
theorem hexs_no (c : Int) (h : ∀ k, k < 16 → (byteAt hexs k : Int) ≠ c) : hexv c = -1 := by
  have e : ∀ k, k < 16 → (byteAt hexs k : Int) = if k < 10 then (k : Int) + 48 else (k : Int) + 87 := by decide +kernel
  by_cases h1 : 48 ≤ c ∧ c ≤ 57
  · have := h (c - 48).toNat (by omega)
    rw [e _ (by omega), if_pos (by omega)] at this
    omega
  · by_cases h2 : 97 ≤ c ∧ c ≤ 102
    · have := h (c - 87).toNat (by omega)
      rw [e _ (by omega), if_neg (by omega)] at this
      omega
    · unfold hexv
      rw [if_neg h1, if_neg h2]

set_option maxRecDepth 100000 in
theorem hex_any (c : Int) (w : World) : Calls Try.prog 61 #[.int .i64 c] w fun e w' => e = .returned (.int .i64 (hexv c)) ∧ w = w' := by
  have hix : ∀ k : Nat, k < 16 → ∀ w, (Instr.index 9 (.string ⟨#[48, 49, 50, 51, 52, 53, 54, 55, 56, 57, 97, 98, 99, 100, 101, 102]⟩) (.int .i64 k)).run Try.prog w = .ok (.int .u8 (byteAt hexs k)) w := fun k hk w => index_run hexs k hk w
  have HIX := Lib.hid hix
  clear hix
  obtain ⟨v, hv⟩ : ∃ v, hexv c = v := ⟨_, rfl⟩
  rw [hv]
  have HV := Lib.hid hv
  clear hv
  go_enter Try.func61, Try.ntmps61
  go_wp2_with fail
  go_loopg [4] 16 (fun gg i wr => ∃ k : Nat, i = .int .i64 k ∧ k + gg = 16 ∧ (∀ j, j < k → (byteAt hexs j : Int) ≠ c) ∧ w = wr)
  case atStart => exact ⟨0, rfl, rfl, fun j hj => absurd hj (Nat.not_lt_zero _), rfl⟩
  case round =>
    obtain ⟨k, rfl, hk, hE, rfl⟩ := hrel
    have HE := Lib.hid hE
    clear hE
    by_cases hlt : k < 16
    · have hlt' : (k : Int) < 16 := by omega
      have hi := HIX.out k hlt
      have hb := byteAt_lt hexs k
      have hv := hexs_at k hlt
      obtain ⟨x, hx⟩ : ∃ x, byteAt hexs k = x := ⟨_, rfl⟩
      rw [hx] at hi hb hv
      have hw : IntKind.i64.wrap (x : Int) = x := by rw [IntKind.wrap_i64]; omega
      have HX := Lib.hid (And.intro hx hv)
      clear hx hv
      by_cases he : (x : Int) = c
      · have he' : ((x : Int) == c) = true := by simpa using he
        have HC := Lib.hid he
        clear he
        go_wp2_with fail
        go_ret
        exact ⟨ret_int (by rw [← HV.out, ← HC.out, HX.out.2]), rfl⟩
      · have he' : ((x : Int) == c) = false := by simpa using he
        have HC := Lib.hid he
        clear he
        go_wp2_with fail
        go_roundg (16 - (k + 1))
        case measure => omega
        case rel =>
          refine ⟨k + 1, by go_num, by omega, fun j hj => ?_, rfl⟩
          by_cases e : j = k
          · rw [e, HX.out.1]; exact HC.out
          · exact HE.out j (by omega)
    · have hke : k = 16 := by omega
      subst hke
      have hv := hexs_no c HE.out
      have HN := Lib.hid hv
      clear hv HE
      go_wp2_with fail
      go_ret
      exact ⟨ret_int (by rw [← HV.out, HN.out]), rfl⟩

/-- Is a byte one of some? -/
def inL (l : List UInt8) (c : Int) : Bool := (List.range l.length).any fun k => decide ((byteAt l k : Int) = c)
theorem inL_yes {l : List UInt8} {c : Int} {k : Nat} (hk : k < l.length) (h : (byteAt l k : Int) = c) : inL l c = true := List.any_eq_true.2 ⟨k, List.mem_range.2 hk, decide_eq_true h⟩
theorem inL_no {l : List UInt8} {c : Int} (h : ∀ k, k < l.length → (byteAt l k : Int) ≠ c) : inL l c = false := by
  rw [Bool.eq_false_iff]
  intro e
  obtain ⟨k, hk, h1⟩ := List.any_eq_true.1 e
  exact h k (List.mem_range.1 hk) (of_decide_eq_true h1)

set_option maxRecDepth 100000 in
theorem in_any (l : List UInt8) (c : Int) (hl : l.length ≤ 1000000) (w : World) : Calls Try.prog 36 #[str l, .int .i64 c] w fun e w' => e = .returned (.bool (inL l c)) ∧ w = w' := by
  have hs := size_str l
  have hix := index_run l
  obtain ⟨B, hB⟩ : ∃ B : ByteArray, (⟨l.toArray⟩ : ByteArray) = B := ⟨_, rfl⟩
  unfold str at hix ⊢
  rw [hB] at hs hix ⊢
  have HIX := Lib.hid hix
  clear hix hB
  obtain ⟨v, hv⟩ : ∃ v, inL l c = v := ⟨_, rfl⟩
  rw [hv]
  have HV := Lib.hid hv
  clear hv
  go_enter Try.func36, Try.ntmps36
  go_wp2_with fail
  go_loopg [5] l.length (fun gg i wr => ∃ k : Nat, i = .int .i64 k ∧ k + gg = l.length ∧ (∀ j, j < k → (byteAt l j : Int) ≠ c) ∧ w = wr)
  case atStart => exact ⟨0, rfl, by omega, fun j hj => absurd hj (Nat.not_lt_zero _), rfl⟩
  case round =>
    obtain ⟨k, rfl, hk, hE, rfl⟩ := hrel
    have HE := Lib.hid hE
    clear hE
    by_cases hlt : k < l.length
    · have hlt' : (k : Int) < l.length := by omega
      have hi := HIX.out k hlt
      have hb := byteAt_lt l k
      have hy := fun h => inL_yes (c := c) hlt h
      obtain ⟨x, hx⟩ : ∃ x, byteAt l k = x := ⟨_, rfl⟩
      rw [hx] at hi hb hy
      have hw : IntKind.i64.wrap (x : Int) = x := by rw [IntKind.wrap_i64]; omega
      have HX := Lib.hid (And.intro hx hy)
      clear hx hy
      by_cases he : (x : Int) = c
      · have he' : ((x : Int) == c) = true := by simpa using he
        have HC := Lib.hid he
        clear he
        go_wp2_with fail
        go_ret
        exact ⟨ret_bool (by rw [← HV.out, HX.out.2 HC.out]), rfl⟩
      · have he' : ((x : Int) == c) = false := by simpa using he
        have HC := Lib.hid he
        clear he
        go_wp2_with fail
        go_roundg (l.length - (k + 1))
        case measure => omega
        case rel =>
          refine ⟨k + 1, by go_num, by omega, fun j hj => ?_, rfl⟩
          by_cases e : j = k
          · rw [e, HX.out.1]; exact HC.out
          · exact HE.out j (by omega)
    · have hke : k = l.length := by omega
      subst hke
      have hv := inL_no HE.out
      have HN := Lib.hid hv
      clear hv HE
      go_wp2_with fail
      go_ret
      exact ⟨ret_bool (by rw [← HV.out, HN.out]), rfl⟩

/-- The state behind a place that is wrong. -/
theorem fail_pos (s : PS) (k : Nat) : (s.fail k).pos = s.pos := by
  unfold PS.fail
  split <;> rfl
theorem digit_any (b : Nat) (l : List UInt8) (s : PS) (hs : s.pos ≤ 100000000) (w : World) (h : Pr w b l s) :
    Calls Try.prog 52 #[.pointer (some ⟨b, 0, none⟩)] w fun e w' => e = .returned (.int .i64 (digit l s).1) ∧ Pr w' b l (digit l s).2 ∧ Keep (fun i => i = b) w w' := by
  have hw : IntKind.i64.wrap ((s.pos : Int) + 1) = (s.pos : Int) + 1 := by rw [IntKind.wrap_i64]; omega
  obtain ⟨c, hc⟩ : ∃ c, nxt l s = c := ⟨_, rfl⟩
  have hn := next_is hc w h
  have hx := fun w => hex_any c w
  obtain ⟨x, hxe⟩ : ∃ x, hexv c = x := ⟨_, rfl⟩
  rw [hxe] at hx
  by_cases h0 : 0 ≤ x
  · have hd : digit l s = (x, s.adv) := by unfold digit; rw [hc, hxe, if_pos h0]
    rw [hd]
    have hlt : ¬ x < 0 := by omega
    have H := Lib.hid (And.intro h (And.intro hn hx))
    clear h hn hx hxe hc hd h0
    go_enter Try.func52, Try.ntmps52
    go_wp2_with fail
    refine H.out.2.1.mono ?_
    rintro e w1 ⟨rfl, q1⟩
    have h1 := H.out.1.keep q1 (fun h => h)
    have c1 : w1.cell? ⟨b, 1, none⟩ = some (.int .i64 s.pos) := At.cell h1 (o := 1) rfl
    have f1 := At.frozen h1 1
    have H1 := Lib.hid (And.intro h1 q1)
    clear h1 q1
    go_wp2_with fail
    refine (H.out.2.2 w1).mono ?_
    rintro e w2 ⟨rfl, rfl⟩
    go_wp2_with fail
    go_ret
    exact ⟨rfl, At.set H1.out.1 1 (.int .i64 ((s.pos : Int) + 1)), (upk b H1.out.2).setCell (p := ⟨b, 1, none⟩) (fun _ => rfl) _⟩
  · have hd : digit l s = (0, s.fail s.pos) := by unfold digit; rw [hc, hxe, if_neg h0]
    rw [hd]
    have hlt : x < 0 := by omega
    have hf := fun w hp => fail_any b l s s.pos w hp
    have H := Lib.hid (And.intro h (And.intro hn (And.intro hx hf)))
    clear h hn hx hxe hc hd h0 hf
    go_enter Try.func52, Try.ntmps52
    go_wp2_with fail
    refine H.out.2.1.mono ?_
    rintro e w1 ⟨rfl, q1⟩
    have h1 := H.out.1.keep q1 (fun h => h)
    have c1 : w1.cell? ⟨b, 1, none⟩ = some (.int .i64 s.pos) := At.cell h1 (o := 1) rfl
    have H1 := Lib.hid (And.intro h1 q1)
    clear h1 q1
    go_wp2_with fail
    refine (H.out.2.2.1 w1).mono ?_
    rintro e w2 ⟨rfl, rfl⟩
    go_wp2_with fail
    refine (H.out.2.2.2 _ H1.out.1).mono ?_
    rintro e w3 ⟨rfl, h3, q3⟩
    have H3 := Lib.hid (And.intro h3 ((upk b H1.out.2).trans q3))
    clear h3 q3 c1
    go_wp2_with fail
    go_ret
    exact ⟨rfl, H3.out.1, H3.out.2⟩
end Go.Proofs.Ytgjmomiobffmdaa.P07
