/- The document's parser (layer 7): number. -/
import Derived.Test.YtgjmomiobffmdaaByte07
namespace Go.Proofs.Ytgjmomiobffmdaa.P07
open Go.RowKit Go.Proofs.Ytgjmomiobffmdaa.Base

/-- The state k bytes on. -/
def PS.on (s : PS) (k : Nat) : PS := { s with pos := s.pos + k }
theorem on_0 (s : PS) : s.on 0 = s := rfl
theorem on_1 (s : PS) : s.on 1 = s.adv := rfl
theorem on_2 (s : PS) : s.on 2 = s.adv.adv := rfl
theorem on_succ (s : PS) (k : Nat) : s.on (k + 1) = (s.on k).adv := rfl
theorem dig_range {c : Int} (h : isDig c = true) : 48 ≤ c ∧ c ≤ 57 := of_decide_eq_true h
theorem dig_no {c : Int} (h : isDig c = false) : ¬ (48 ≤ c ∧ c ≤ 57) := of_decide_eq_false h

/-- What was read, k digits on. -/
def numAt (l : List UInt8) (s : PS) : Nat → Int
  | 0 => 0
  | k + 1 => 10 * numAt l s k + nxt l (s.on k) - 48
/-- So many digits stand there. -/
def digs (l : List UInt8) (s : PS) (k : Nat) : Prop := k ≤ 2 ∧ ∀ j, j < k → isDig (nxt l (s.on j)) = true
theorem digs_0 (l : List UInt8) (s : PS) : digs l s 0 := ⟨by omega, fun j h => absurd h (Nat.not_lt_zero _)⟩
theorem digs_succ {l : List UInt8} {s : PS} {k : Nat} (h : digs l s k) (hk : k < 2) (hd : isDig (nxt l (s.on k)) = true) : digs l s (k + 1) :=
  ⟨by omega, fun j hj => by
    by_cases e : j = k
    · rw [e]; exact hd
    · exact h.2 j (by omega)⟩
theorem numAt_range {l : List UInt8} {s : PS} : ∀ {k}, digs l s k → 0 ≤ numAt l s k ∧ numAt l s k ≤ 999
  | 0, _ => by unfold numAt; omega
  | 1, h => by
    have := dig_range (h.2 0 (by omega))
    unfold numAt numAt
    omega
  | 2, h => by
    have := dig_range (h.2 0 (by omega))
    have := dig_range (h.2 1 (by omega))
    unfold numAt numAt numAt
    omega
  | k + 3, h => by have := h.1; omega
/-- Where it ends. -/
theorem num_end {l : List UInt8} {s : PS} {k : Nat} (h : digs l s k) (he : k = 2 ∨ isDig (nxt l (s.on k)) = false) :
    num l s = (numAt l s k, if k = 0 then s.fail s.pos else s.on k) := by
  match k, h, he with
  | 0, _, he =>
    have e : isDig (nxt l s) = false := by
      rcases he with he | he
      · cases he
      · exact he
    unfold num numB
    rw [e]
    rfl
  | 1, h, he =>
    have e : isDig (nxt l s) = true := h.2 0 (by omega)
    have e2 : isDig (nxt l s.adv) = false := by
      rcases he with he | he
      · cases he
      · exact he
    unfold num numB num2 numB2
    rw [e, e2, if_pos rfl, if_neg (by decide), if_neg (by decide)]
    unfold numAt numAt
    rw [on_0, on_1]
    congr 1
    omega
  | 2, h, _ =>
    have e : isDig (nxt l s) = true := h.2 0 (by omega)
    have e2 : isDig (nxt l s.adv) = true := h.2 1 (by omega)
    unfold num numB num2 numB2
    rw [e, e2, if_pos rfl, if_pos rfl, if_neg (by decide)]
    unfold numAt numAt numAt
    rw [on_0, on_1, on_2]
    congr 1
    omega
  | k + 3, h, _ => exact absurd h.1 (by omega)

set_option maxRecDepth 100000 in
set_option maxHeartbeats 4000000 in
theorem number_any (b : Nat) (l : List UInt8) (s : PS) (hs : s.pos ≤ 90000000) (w : World) (h : Pr w b l s) :
    Calls Try.prog 37 #[.pointer (some ⟨b, 0, none⟩)] w fun e w' => e = .returned (.int .i64 (number l s).1) ∧ Pr w' b l (number l s).2 ∧ Keep (fun i => i = b) w w' := by
  obtain ⟨⟨rv, rs⟩, hr⟩ : ∃ r, number l s = r := ⟨_, rfl⟩
  rw [hr]
  have HR := Lib.hid hr
  clear hr
  have c1 : w.cell? ⟨b, 1, none⟩ = some (.int .i64 s.pos) := At.cell h (o := 1) rfl
  have H := Lib.hid h
  clear h
  go_enter Try.func37, Try.ntmps37
  go_wp2_with fail
  clear c1
  go_loopg [4] 2 (fun gg n wr => ∃ k : Nat, n = .int .i64 (numAt l s k) ∧ k + gg = 2 ∧ digs l s k ∧ Pr wr b l (s.on k) ∧ Keep (fun i => i = b) w wr)
  case atStart => exact ⟨0, rfl, rfl, digs_0 l s, H.out, Keep.refl _ _⟩
  case round =>
    obtain ⟨k, rfl, hk, hd, hp, hq⟩ := hrel
    have hrg := numAt_range hd
    have c1 : wr.cell? ⟨b, 1, none⟩ = some (.int .i64 ((s.pos : Int) + k)) := by
      have := At.cell hp (o := 1) rfl
      rw [this]
      rfl
    have w1 : IntKind.i64.wrap ((s.pos : Int) + k - s.pos) = k := by rw [IntKind.wrap_i64]; omega
    obtain ⟨c, hc⟩ : ∃ c, nxt l (s.on k) = c := ⟨_, rfl⟩
    have hcr := nxt_range l (s.on k)
    rw [hc] at hcr
    have hn := fun w hp => next_is (b := b) hc w hp
    have hcut : k < 2 → digs l s k := fun _ => hd
    by_cases hgo : k < 2 ∧ isDig c = true
    · obtain ⟨hk2, hdig⟩ := hgo
      have hk2' : (k : Int) < 2 := by omega
      obtain ⟨d1, d2⟩ := dig_range hdig
      have hds := digs_succ hd hk2 (by rw [hc]; exact hdig)
      have hna : numAt l s (k + 1) = 10 * numAt l s k + c - 48 := by rw [numAt, hc]
      have H1 := Lib.hid (And.intro hp (And.intro hq (And.intro hn (And.intro hds hna))))
      obtain ⟨n, hnn⟩ : ∃ n, numAt l s k = n := ⟨_, rfl⟩
      rw [hnn] at hrg
      have w2 : IntKind.i64.wrap (10 * n) = 10 * n := by rw [IntKind.wrap_i64]; omega
      have w3 : IntKind.i64.wrap (10 * n + c) = 10 * n + c := by rw [IntKind.wrap_i64]; omega
      have w4 : IntKind.i64.wrap (10 * n + c - 48) = 10 * n + c - 48 := by rw [IntKind.wrap_i64]; omega
      have w5 : IntKind.i64.wrap ((s.pos : Int) + k + 1) = (s.pos : Int) + k + 1 := by rw [IntKind.wrap_i64]; omega
      have HN := Lib.hid hnn
      rw [hnn]
      clear hd hp hq hn hcut hds hna hc hnn hdig
      go_wp2_with fail
      refine (H1.out.2.2.1 wr H1.out.1).mono ?_
      rintro e v1 ⟨rfl, q1⟩
      have P1 := Lib.hid (And.intro (H1.out.1.keep q1 (fun h => h)) (H1.out.2.1.trans (upk b q1)))
      clear q1 c1
      go_wp2_with fail
      refine (H1.out.2.2.1 v1 P1.out.1).mono ?_
      rintro e v2 ⟨rfl, q2⟩
      have P2 := Lib.hid (And.intro (P1.out.1.keep q2 (fun h => h)) (P1.out.2.trans (upk b q2)))
      clear q2
      go_wp2_with fail
      refine (H1.out.2.2.1 v2 P2.out.1).mono ?_
      rintro e v3 ⟨rfl, q3⟩
      have P3 := Lib.hid (And.intro (P2.out.1.keep q3 (fun h => h)) (P2.out.2.trans (upk b q3)))
      clear q3
      have c1 : v3.cell? ⟨b, 1, none⟩ = some (.int .i64 ((s.pos : Int) + k)) := by
        have := At.cell P3.out.1 (o := 1) rfl
        rw [this]
        rfl
      have f1 := At.frozen P3.out.1 1
      go_wp2_with fail
      go_roundg (2 - (k + 1))
      case measure => omega
      case rel =>
        refine ⟨k + 1, ?_, by omega, H1.out.2.2.2.1, ?_, P3.out.2.setCell (p := ⟨b, 1, none⟩) (fun _ => rfl) _⟩
        · rw [H1.out.2.2.2.2, HN.out]
        · have := At.set P3.out.1 1 (.int .i64 ((s.pos : Int) + k + 1))
          exact this
    · have hend : num l s = (numAt l s k, if k = 0 then s.fail s.pos else s.on k) := num_end hd (by
        rcases Nat.lt_or_ge k 2 with h2 | h2
        · right
          rw [hc]
          cases hx : isDig c with
          | false => rfl
          | true => exact absurd ⟨h2, hx⟩ hgo
        · left
          have := hd.1
          omega)
      have hbn : k ≠ 0 → s.bad = none := fun h0 => (nxt_lt (l := l) (s := s) (by have := dig_range (hd.2 0 (by omega)); rw [on_0] at this; omega)).1
      have hk2 : k ≤ 2 := hd.1
      have H1 := Lib.hid (And.intro hp (And.intro hq (And.intro hn (And.intro hend hbn))))
      obtain ⟨n, hnn⟩ : ∃ n, numAt l s k = n := ⟨_, rfl⟩
      rw [hnn] at hrg H1
      have hz : k = 0 → n = 0 := fun e => by rw [← hnn, e]; rfl
      rw [hnn]
      clear hd hp hq hn hcut hc hend hbn hnn
      have tail : ∀ v, Pr v b l (s.on k) → Keep (fun i => i = b) w v → v.cell? ⟨b, 1, none⟩ = some (.int .i64 ((s.pos : Int) + k)) := fun v hv _ => by
        have := At.cell hv (o := 1) rfl
        rw [this]
        rfl
      have HT := Lib.hid tail
      clear tail
      by_cases h2 : k = 2
      · have hge : ¬ (k : Int) < 2 := by omega
        have P0 := Lib.hid (And.intro H1.out.1 H1.out.2.1)
        clear hgo h2
        by_cases k0 : k = 0
        · omega
        · have e0 : (((s.pos : Int) + k) == s.pos) = false := by simp; omega
          have hbn := H1.out.2.2.2.2 k0
          by_cases h20 : 20 < n
          · have hE : number l s = (n, (s.on k).fail s.pos) := by
              unfold number
              rw [H1.out.2.2.2.1, if_neg k0]
              rw [if_pos ⟨hbn, h20⟩]
            have hE := HR.out.symm.trans hE
            injection hE with e5 e6
            subst e5 e6
            have hf := fun w hp => fail_any b l (s.on k) s.pos w hp
            have HF := Lib.hid hf
            clear hf hbn
            go_wp2_with fail
            refine (HF.out _ P0.out.1).mono ?_
            rintro e v8 ⟨rfl, h8, q8⟩
            have H8 := Lib.hid (And.intro h8 (P0.out.2.trans q8))
            clear h8 q8
            go_wp2_with fail
            go_ret
            exact ⟨rfl, H8.out.1, H8.out.2⟩
          · have hE : number l s = (n, s.on k) := by
              unfold number
              rw [H1.out.2.2.2.1, if_neg k0]
              rw [if_neg (fun e => h20 e.2)]
            have hE := HR.out.symm.trans hE
            injection hE with e5 e6
            subst e5 e6
            have HB := Lib.hid hbn
            clear hbn
            go_wp2_with fail
            go_ret
            exact ⟨rfl, P0.out.1, P0.out.2⟩
      · have hlt2 : (k : Int) < 2 := by omega
        by_cases h48 : c < 48
        · have h48' : ¬ (48 : Int) ≤ c := by omega
          clear hgo h2 h48
          go_wp2_with fail
          refine (H1.out.2.2.1 wr H1.out.1).mono ?_
          rintro e v1 ⟨rfl, q1⟩
          have P1 := Lib.hid (And.intro (H1.out.1.keep q1 (fun h => h)) (H1.out.2.1.trans (upk b q1)))
          clear q1 c1
          have c1 := HT.out _ P1.out.1 P1.out.2
          by_cases k0 : k = 0
          · subst k0
            obtain rfl := hz rfl
            have e0 : (((s.pos : Int) + (0 : Nat)) == s.pos) = true := by simp
            have hE : number l s = (0, s.fail s.pos) := by
              unfold number
              rw [H1.out.2.2.2.1, if_pos rfl]
              rw [if_neg (fun e => (show ¬ (20 : Int) < 0 by decide) e.2)]
            have hE := HR.out.symm.trans hE
            injection hE with e5 e6
            subst e5 e6
            have hf := fun w hp => fail_any b l (s.on 0) s.pos w hp
            have HF := Lib.hid hf
            clear hf
            go_wp2_with fail
            refine (HF.out _ P1.out.1).mono ?_
            rintro e v8 ⟨rfl, h8, q8⟩
            have H8 := Lib.hid (And.intro h8 (P1.out.2.trans q8))
            clear h8 q8
            go_wp2_with fail
            go_ret
            exact ⟨rfl, H8.out.1, H8.out.2⟩
          · have e0 : (((s.pos : Int) + k) == s.pos) = false := by simp; omega
            have hbn := H1.out.2.2.2.2 k0
            by_cases h20 : 20 < n
            · have hE : number l s = (n, (s.on k).fail s.pos) := by
                unfold number
                rw [H1.out.2.2.2.1, if_neg k0]
                rw [if_pos ⟨hbn, h20⟩]
              have hE := HR.out.symm.trans hE
              injection hE with e5 e6
              subst e5 e6
              have hf := fun w hp => fail_any b l (s.on k) s.pos w hp
              have HF := Lib.hid hf
              clear hf hbn
              go_wp2_with fail
              refine (HF.out _ P1.out.1).mono ?_
              rintro e v8 ⟨rfl, h8, q8⟩
              have H8 := Lib.hid (And.intro h8 (P1.out.2.trans q8))
              clear h8 q8
              go_wp2_with fail
              go_ret
              exact ⟨rfl, H8.out.1, H8.out.2⟩
            · have hE : number l s = (n, s.on k) := by
                unfold number
                rw [H1.out.2.2.2.1, if_neg k0]
                rw [if_neg (fun e => h20 e.2)]
              have hE := HR.out.symm.trans hE
              injection hE with e5 e6
              subst e5 e6
              have HB := Lib.hid hbn
              clear hbn
              go_wp2_with fail
              go_ret
              exact ⟨rfl, P1.out.1, P1.out.2⟩
        · have h48' : (48 : Int) ≤ c := by omega
          have h57 : ¬ c ≤ 57 := fun h => hgo ⟨by omega, decide_eq_true ⟨h48', h⟩⟩
          clear hgo h2 h48
          go_wp2_with fail
          refine (H1.out.2.2.1 wr H1.out.1).mono ?_
          rintro e v1 ⟨rfl, q1⟩
          have P1 := Lib.hid (And.intro (H1.out.1.keep q1 (fun h => h)) (H1.out.2.1.trans (upk b q1)))
          clear q1 c1
          go_wp2_with fail
          refine (H1.out.2.2.1 v1 P1.out.1).mono ?_
          rintro e v2 ⟨rfl, q2⟩
          have P2 := Lib.hid (And.intro (P1.out.1.keep q2 (fun h => h)) (P1.out.2.trans (upk b q2)))
          clear q2
          have c1 := HT.out _ P2.out.1 P2.out.2
          by_cases k0 : k = 0
          · subst k0
            obtain rfl := hz rfl
            have e0 : (((s.pos : Int) + (0 : Nat)) == s.pos) = true := by simp
            have hE : number l s = (0, s.fail s.pos) := by
              unfold number
              rw [H1.out.2.2.2.1, if_pos rfl]
              rw [if_neg (fun e => (show ¬ (20 : Int) < 0 by decide) e.2)]
            have hE := HR.out.symm.trans hE
            injection hE with e5 e6
            subst e5 e6
            have hf := fun w hp => fail_any b l (s.on 0) s.pos w hp
            have HF := Lib.hid hf
            clear hf
            go_wp2_with fail
            refine (HF.out _ P2.out.1).mono ?_
            rintro e v8 ⟨rfl, h8, q8⟩
            have H8 := Lib.hid (And.intro h8 (P2.out.2.trans q8))
            clear h8 q8
            go_wp2_with fail
            go_ret
            exact ⟨rfl, H8.out.1, H8.out.2⟩
          · have e0 : (((s.pos : Int) + k) == s.pos) = false := by simp; omega
            have hbn := H1.out.2.2.2.2 k0
            by_cases h20 : 20 < n
            · have hE : number l s = (n, (s.on k).fail s.pos) := by
                unfold number
                rw [H1.out.2.2.2.1, if_neg k0]
                rw [if_pos ⟨hbn, h20⟩]
              have hE := HR.out.symm.trans hE
              injection hE with e5 e6
              subst e5 e6
              have hf := fun w hp => fail_any b l (s.on k) s.pos w hp
              have HF := Lib.hid hf
              clear hf hbn
              go_wp2_with fail
              refine (HF.out _ P2.out.1).mono ?_
              rintro e v8 ⟨rfl, h8, q8⟩
              have H8 := Lib.hid (And.intro h8 (P2.out.2.trans q8))
              clear h8 q8
              go_wp2_with fail
              go_ret
              exact ⟨rfl, H8.out.1, H8.out.2⟩
            · have hE : number l s = (n, s.on k) := by
                unfold number
                rw [H1.out.2.2.2.1, if_neg k0]
                rw [if_neg (fun e => h20 e.2)]
              have hE := HR.out.symm.trans hE
              injection hE with e5 e6
              subst e5 e6
              have HB := Lib.hid hbn
              clear hbn
              go_wp2_with fail
              go_ret
              exact ⟨rfl, P2.out.1, P2.out.2⟩
end Go.Proofs.Ytgjmomiobffmdaa.P07
