/- Contract of the document's Escape, and of bytes256's span. -/
import Derived.Test.YtdiegmejkipacaaDoorEsc
namespace Go.Proofs.YtdiegmejkipacaaDoor.Bytes
open Go.RowKit Go.Proofs.YtdiegmejkipacaaDoor.Base Go.Proofs.YtdiegmejkipacaaDoor.Sets

theorem hexd_cut : ∀ j, j < 16 → (ByteArray.mk #[48, 49, 50, 51, 52, 53, 54, 55, 56, 57, 97, 98, 99, 100, 101, 102]).extract j (j + 1) = ⟨#[hexd j]⟩ := by decide +kernel

theorem slice_run (k : Nat) (hk : k < 16) (w : World) : (Instr.slice 9 hexV (some (.int .i64 k)) (some (.int .i64 ((k : Int) + 1))) none).run Tryd.prog w = .ok (str [hexd k]) w := by
  have h : (0 : Int) ≤ (k : Int) + 1 ∧ (k : Int) + 1 ≤ (16 : Nat) := by omega
  have h2 : (0 : Int) ≤ (k : Int) ∧ (k : Int) ≤ (k : Int) + 1 := by omega
  have h3 : ((k : Int) + 1).toNat = k + 1 := by omega
  have e := hexd_cut k hk
  simp [Instr.slice, Instr.sliceBounds, Instr.sliceBound, run_underlying (P := Tryd.prog) Tryd.underlying9, asIntOf, h, h2, h3, e, go_sem]
  intro hc
  exact absurd hc (by omega)

theorem str_append (a b : List UInt8) : (ByteArray.mk a.toArray ++ ByteArray.mk b.toArray) = ⟨(a ++ b).toArray⟩ := by
  apply ByteArray.ext
  simp

theorem ret_str {a b : ByteArray} (h : a = b) : Ending.returned (.string a) = .returned (.string b) := by rw [h]

theorem esc_len (b : Nat) : (esc b).length ≤ 4 := by
  unfold esc
  split <;> simp

set_option maxRecDepth 100000 in
theorem resc_any (b : Nat) (hb : b < 256) (w : World) : Calls Tryd.prog 19 #[.int .i64 b] w fun e w' => e = .returned (str (esc b)) ∧ Keep (fun _ => False) w w' := by
  go_enter Tryd.func19, Tryd.ntmps19
  go_wp2_with fail
  refine (rplain_any b hb w).mono ?_
  rintro e w' ⟨rfl, rfl⟩
  cases hp : plainB b with
  | true =>
    have c := conv1 b hb w
    have he : str (esc b) = str [UInt8.ofNat b] := by rw [esc, if_pos hp]
    have HE := Lib.hid he
    clear he hp
    go_wp2
    go_ret
    exact ⟨by rw [HE.out]; rfl, (Keep.refl _ _).alloc _⟩
  | false =>
    have he : str (esc b) = str [92, 120, hexd (b / 16), hexd (b % 16)] := by rw [esc, if_neg (by simp [hp])]
    have HE := Lib.hid he
    clear he hp
    have j0 : IntKind.i64.wrap ((b : Int) / 16) = (b : Int) / 16 := by rw [IntKind.wrap_i64]; omega
    have j01 : IntKind.i64.wrap ((b : Int) % 16) = (b : Int) % 16 := by rw [IntKind.wrap_i64]; omega
    have j1 : IntKind.i64.wrap ((b : Int) / 16 + 1) = (b : Int) / 16 + 1 := by rw [IntKind.wrap_i64]; omega
    have j2 : IntKind.i64.wrap ((b : Int) % 16 + 1) = (b : Int) % 16 + 1 := by rw [IntKind.wrap_i64]; omega
    have i1 : ∀ w, (Instr.slice 9 hexV (some (.int .i64 ((b : Int) / 16))) (some (.int .i64 ((b : Int) / 16 + 1))) none).run Tryd.prog w = .ok (str [hexd (b / 16)]) w := slice_run (b / 16) (by omega)
    have i2 : ∀ w, (Instr.slice 9 hexV (some (.int .i64 ((b : Int) % 16))) (some (.int .i64 ((b : Int) % 16 + 1))) none).run Tryd.prog w = .ok (str [hexd (b % 16)]) w := slice_run (b % 16) (by omega)
    have k1 : (0 : Int) ≤ (b : Int) / 16 := by omega
    have k2 : (b : Int) / 16 < 16 := by omega
    have k3 : (0 : Int) ≤ (b : Int) % 16 := by omega
    have k4 : (b : Int) % 16 < 16 := by omega
    go_wp2_with fail
    go_quiet (fail)
    go_wp2
    go_ret
    exact ⟨by rw [HE.out]; exact ret_str (ByteArray.ext (by simp)), (Keep.refl _ _).drewN _⟩

/-- A range, as it stands in a class. -/
def spanT (lo hi : Nat) : List UInt8 := if hi = lo then esc lo else if hi = lo + 1 then esc lo ++ esc hi else esc lo ++ [45] ++ esc hi

theorem span_any (lo hi : Nat) (hl : lo ≤ hi) (hh : hi < 256) (w : World) : Calls Tryd.prog 35 #[.int .u8 lo, .int .u8 hi] w fun e w' => e = .returned (str (spanT lo hi)) ∧ Keep (fun _ => False) w w' := by
  by_cases h0 : hi = lo
  · have hb : ((hi : Int) - lo == 0) = true := by simp; omega
    have he : str (spanT lo hi) = str (esc lo) := by rw [spanT, if_pos h0]
    have HE := Lib.hid he
    clear he h0
    go_enter Tryd.func35, Tryd.ntmps35
    go_wp2_with fail
    refine (esc_any lo (by omega) w).mono ?_
    rintro e w1 ⟨rfl, q⟩
    have HQ := Lib.hid q
    clear q
    go_wp2
    go_ret
    exact ⟨by rw [HE.out]; rfl, HQ.out⟩
  · have hb : ((hi : Int) - lo == 0) = false := by simp; omega
    by_cases h1 : hi = lo + 1
    · have hb1 : ((hi : Int) - lo == 1) = true := by simp; omega
      have he : str (spanT lo hi) = str (esc lo ++ esc hi) := by rw [spanT, if_neg h0, if_pos h1]
      have HE := Lib.hid he
      clear he h0 h1
      go_enter Tryd.func35, Tryd.ntmps35
      go_wp2_with fail
      refine (esc_any lo (by omega) w).mono ?_
      rintro e w1 ⟨rfl, q1⟩
      go_wp2_with fail
      refine (esc_any hi (by omega) w1).mono ?_
      rintro e w2 ⟨rfl, q2⟩
      have HQ := Lib.hid (q1.trans q2)
      clear q1 q2
      have hb9 : ¬ 9223372036854775807 < (esc lo).length + (esc hi).length := by have := esc_len lo; have := esc_len hi; omega
      go_wp2
      go_ret
      exact ⟨by rw [HE.out]; exact ret_str (str_append _ _), HQ.out⟩
    · have hb1 : ((hi : Int) - lo == 1) = false := by simp; omega
      have he : str (spanT lo hi) = str (esc lo ++ [45] ++ esc hi) := by rw [spanT, if_neg h0, if_neg h1]
      have HE := Lib.hid he
      clear he h0 h1
      go_enter Tryd.func35, Tryd.ntmps35
      go_wp2_with fail
      refine (esc_any lo (by omega) w).mono ?_
      rintro e w1 ⟨rfl, q1⟩
      have l1 := esc_len lo
      have l2 := esc_len hi
      have hb8 : ¬ 9223372036854775807 < (esc lo).length + 1 := by omega
      have hb9 : ¬ 9223372036854775807 < (esc lo).length + 1 + (esc hi).length := by omega
      go_wp2_with fail
      refine (esc_any hi (by omega) w1).mono ?_
      rintro e w2 ⟨rfl, q2⟩
      have HQ := Lib.hid (q1.trans q2)
      clear q1 q2
      go_wp2
      go_ret
      exact ⟨by rw [HE.out]; exact ret_str (ByteArray.ext (by simp)), HQ.out⟩

end Go.Proofs.YtdiegmejkipacaaDoor.Bytes
