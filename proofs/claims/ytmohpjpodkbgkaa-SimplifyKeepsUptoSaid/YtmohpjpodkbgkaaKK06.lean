/- The document's parser (layer 7): plain (by the length of what layer 4's Escape answers), one. -/
import Derived.Test.YtmohpjpodkbgkaaKK04
import Derived.BigQuiet
import Derived.LaidMore
namespace Go.Proofs.Ytmohpjpodkbgkaa.P07
open Go.RowKit Go.Proofs.Ytmohpjpodkbgkaa.Base

def sgns : List UInt8 := [32, 33, 34, 35, 37, 38, 39, 44, 47, 58, 59, 60, 61, 62, 64, 95, 96, 126]
theorem plain_low {b : Nat} (h : 97 ≤ b ∧ b ≤ 122 ∨ 65 ≤ b ∧ b ≤ 90 ∨ 48 ≤ b ∧ b ≤ 57) : plainN b = true := by
  unfold plainN
  rw [decide_eq_true h]
  rfl
theorem plain_sg {b k : Nat} (hk : k < 18) (h : byteAt sgns k = b) : plainN b = true := by
  have e : ∀ k, k < 18 → plainN (byteAt sgns k) = true := by decide +kernel
  rw [← h]
  exact e k hk
theorem plain_none {b : Nat} (h0 : ¬ (97 ≤ b ∧ b ≤ 122 ∨ 65 ≤ b ∧ b ≤ 90 ∨ 48 ≤ b ∧ b ≤ 57)) (h : ∀ k, k < 18 → byteAt sgns k ≠ b) : plainN b = false := by
  unfold plainN
  rw [decide_eq_false h0, Bool.false_or, Bool.eq_false_iff]
  intro e
  have e := List.contains_iff_mem.1 e
  have g : ∀ x ∈ ([32, 33, 34, 35, 37, 38, 39, 44, 47, 58, 59, 60, 61, 62, 64, 95, 96, 126] : List Nat), ∃ k, k < 18 ∧ byteAt sgns k = x := by decide +kernel
  obtain ⟨k, hk, hx⟩ := g b e
  exact h k hk hx

set_option maxRecDepth 100000 in
set_option maxHeartbeats 1000000 in
theorem rplain_any (b : Nat) (hb : b < 256) (w : World) : Calls Try.prog 62 #[.int .i64 b] w fun e w' => e = .returned (.bool (plainN b)) ∧ w = w' := by
  have hix : ∀ k : Nat, k < 18 → ∀ w, (Instr.index 9 (.string ⟨#[32, 33, 34, 35, 37, 38, 39, 44, 47, 58, 59, 60, 61, 62, 64, 95, 96, 126]⟩) (.int .i64 k)).run Try.prog w = .ok (.int .u8 (byteAt sgns k)) w := fun k hk w => index_run sgns k hk w
  have HIX := Lib.hid hix
  clear hix
  go_enter Try.func62, Try.ntmps62
  go_wp2_with fail
  all_goals first
    | (go_ret; exact ⟨ret_bool (plain_low (by omega)).symm, rfl⟩)
    | skip
  all_goals
    have h0 : ¬ (97 ≤ b ∧ b ≤ 122 ∨ 65 ≤ b ∧ b ≤ 90 ∨ 48 ≤ b ∧ b ≤ 57) := by omega
    have H0 := Lib.hid h0
    clear h0
    go_loopg [4] 18 (fun gg i wr => ∃ k : Nat, i = .int .i64 k ∧ k + gg = 18 ∧ (∀ j, j < k → byteAt sgns j ≠ b) ∧ wr = w)
    case atStart => exact ⟨0, rfl, rfl, fun j hj => (by omega), rfl⟩
    case round =>
      obtain ⟨k, rfl, hk, hj, rfl⟩ := hrel
      have HJ := Lib.hid hj
      clear hj
      by_cases hlt : k < 18
      · have hi := HIX.out k hlt
        have hlt' : (k : Int) < 18 := by omega
        have hu := byteAt_lt sgns k
        have hsg := fun h => plain_sg (b := b) hlt h
        obtain ⟨u, hu2⟩ : ∃ u, byteAt sgns k = u := ⟨_, rfl⟩
        rw [hu2] at hi hu hsg
        have hw : IntKind.i64.wrap (u : Int) = u := by rw [IntKind.wrap_i64]; omega
        have HU := Lib.hid (And.intro hu2 hsg)
        clear hu2 hsg
        by_cases he : u = b
        · have heb : ((u : Int) == (b : Int)) = true := by simp; omega
          have HC := Lib.hid he
          clear he
          go_wp2_with fail
          go_ret
          exact ⟨ret_bool (HU.out.2 HC.out).symm, rfl⟩
        · have heb : ((u : Int) == (b : Int)) = false := by simp; omega
          have HC := Lib.hid he
          clear he
          go_wp2_with fail
          go_roundg (18 - (k + 1))
          case measure => omega
          case rel =>
            refine ⟨k + 1, by go_num, by omega, fun j h => ?_, rfl⟩
            by_cases e : j = k
            · rw [e, HU.out.1]; exact HC.out
            · exact HJ.out j (by omega)
      · have hk18 : k = 18 := by omega
        subst hk18
        have hs := plain_none H0.out HJ.out
        have HS := Lib.hid hs
        clear hs HJ
        go_wp2_with fail
        go_ret
        exact ⟨ret_bool HS.out.symm, rfl⟩

theorem sub_cut (l : List UInt8) (lo hi : Nat) : ByteArray.extract ⟨l.toArray⟩ lo hi = ⟨((l.take hi).drop lo).toArray⟩ := by
  apply ByteArray.ext
  simp [List.drop_take]
theorem slice_run (l : List UInt8) (lo hi : Nat) (h1 : lo ≤ hi) (h2 : hi ≤ l.length) (w : World) : (Instr.slice 9 (str l) (some (.int .i64 lo)) (some (.int .i64 hi)) none).run Try.prog w = .ok (str ((l.take hi).drop lo)) w := by
  have hs := size_str l
  have e := sub_cut l lo hi
  have a3 : (0 : Int) ≤ hi := by omega
  have a4 : (0 : Int) ≤ lo := by omega
  simp [Instr.slice, Instr.sliceBounds, Instr.sliceBound, run_underlying (P := Try.prog) Try.underlying9, asIntOf, hs, e, h1, h2, a3, a4, go_sem]
theorem conv1 (b : Nat) (hb : b < 256) (w : World) : (convert 71 9 (.slice (some ⟨w.heap.size, 0, none⟩) 1 1)).run Try.prog (w.alloc (.cells #[.int .u8 b] 5)) = .ok (str [UInt8.ofNat b]) (w.alloc (.cells #[.int .u8 b] 5)) := by
  refine run_convert_bytes_back (P := Try.prog) _ _ _ 5 ⟨w.heap.size, 0, none⟩ 1 [UInt8.ofNat b] Try.underlying71 Try.underlying5 Try.underlying9 (fun j hj => ?_)
  obtain rfl : j = 0 := by simp at hj; omega
  have e : (UInt8.ofNat b).toNat = b := by simp; omega
  have h := (At.new w #[.int .u8 b] 5).cell (o := 0) rfl
  simp only [List.getElem_cons_zero, e]
  exact h
theorem str_append (a b : List UInt8) : (ByteArray.mk a.toArray ++ ByteArray.mk b.toArray) = ⟨(a ++ b).toArray⟩ := by
  apply ByteArray.ext
  simp
theorem ret_str {a b : ByteArray} (h : a = b) : Ending.returned (.string a) = .returned (.string b) := by rw [h]

/-- How long what Escape answers is. -/
def escL (b : Nat) : List UInt8 := if plainN b = true then [UInt8.ofNat b] else [92, 120, UInt8.ofNat (byteAt hexs (b / 16)), UInt8.ofNat (byteAt hexs (b % 16))]
theorem cut1 (k : Nat) (hk : k < 16) : (hexs.take (k + 1)).drop k = [UInt8.ofNat (byteAt hexs k)] := by
  have e : ∀ k, k < 16 → (hexs.take (k + 1)).drop k = [UInt8.ofNat (byteAt hexs k)] := by decide +kernel
  exact e k hk

set_option maxRecDepth 100000 in
set_option maxHeartbeats 1000000 in
theorem esc_any (b : Nat) (hb : b < 256) (w : World) : Calls Try.prog 46 #[.int .i64 b] w fun e w' => e = .returned (str (escL b)) ∧ Keep (fun _ => False) w w' := by
  have hr := fun w => rplain_any b hb w
  cases hp : plainN b with
  | true =>
    rw [hp] at hr
    have c := conv1 b hb w
    have he : str (escL b) = str [UInt8.ofNat b] := by rw [escL, if_pos hp]
    have HE := Lib.hid (And.intro he hr)
    have hw : IntKind.u8.wrap (b : Int) = b := by rw [IntKind.wrap_u8]; omega
    clear he hp hr
    go_enter Try.func46, Try.ntmps46
    go_wp2_with fail
    refine (HE.out.2 w).mono ?_
    rintro e w' ⟨rfl, rfl⟩
    go_wp2_with fail
    go_ret
    exact ⟨by rw [HE.out.1]; rfl, (Keep.refl _ _).alloc _⟩
  | false =>
    rw [hp] at hr
    have he : str (escL b) = str [92, 120, UInt8.ofNat (byteAt hexs (b / 16)), UInt8.ofNat (byteAt hexs (b % 16))] := by rw [escL, if_neg (by simp [hp])]
    have i1 : ∀ w, (Instr.slice 9 (.string ⟨#[48, 49, 50, 51, 52, 53, 54, 55, 56, 57, 97, 98, 99, 100, 101, 102]⟩) (some (.int .i64 ((b : Int) / 16))) (some (.int .i64 ((b : Int) / 16 + 1))) none).run Try.prog w = .ok (str [UInt8.ofNat (byteAt hexs (b / 16))]) w := fun w => by
      have h := slice_run hexs (b / 16) (b / 16 + 1) (by omega) (by show _ ≤ 16; omega) w
      rw [cut1 _ (by omega)] at h
      exact h
    have i2 : ∀ w, (Instr.slice 9 (.string ⟨#[48, 49, 50, 51, 52, 53, 54, 55, 56, 57, 97, 98, 99, 100, 101, 102]⟩) (some (.int .i64 ((b : Int) % 16))) (some (.int .i64 ((b : Int) % 16 + 1))) none).run Try.prog w = .ok (str [UInt8.ofNat (byteAt hexs (b % 16))]) w := fun w => by
      have h := slice_run hexs (b % 16) (b % 16 + 1) (by omega) (by show _ ≤ 16; omega) w
      rw [cut1 _ (by omega)] at h
      exact h
    have HE := Lib.hid (And.intro he hr)
    clear he hp hr
    have j0 : IntKind.i64.wrap ((b : Int) / 16) = (b : Int) / 16 := by rw [IntKind.wrap_i64]; omega
    have j01 : IntKind.i64.wrap ((b : Int) % 16) = (b : Int) % 16 := by rw [IntKind.wrap_i64]; omega
    have j1 : IntKind.i64.wrap ((b : Int) / 16 + 1) = (b : Int) / 16 + 1 := by rw [IntKind.wrap_i64]; omega
    have j2 : IntKind.i64.wrap ((b : Int) % 16 + 1) = (b : Int) % 16 + 1 := by rw [IntKind.wrap_i64]; omega
    have k1 : (0 : Int) ≤ (b : Int) / 16 := by omega
    have k2 : (b : Int) / 16 < 16 := by omega
    have k3 : (0 : Int) ≤ (b : Int) % 16 := by omega
    have k4 : (b : Int) % 16 < 16 := by omega
    go_enter Try.func46, Try.ntmps46
    go_wp2_with fail
    refine (HE.out.2 w).mono ?_
    rintro e w' ⟨rfl, rfl⟩
    go_wp2_with fail
    go_quiet (fail)
    go_wp2
    go_ret
    exact ⟨by rw [HE.out.1]; exact ret_str (ByteArray.ext (by simp)), (Keep.refl _ _).drewN _⟩

theorem plainI_nat {b : Nat} : plainI (b : Int) = plainN b := by
  unfold plainI
  rw [decide_eq_true (by omega)]
  rfl
end Go.Proofs.Ytmohpjpodkbgkaa.P07
/- The document's parser (layer 7): one (a byte, or an escape). -/
namespace Go.Proofs.Ytmohpjpodkbgkaa.P07
open Go.RowKit Go.Proofs.Ytmohpjpodkbgkaa.Base

def sgL : List UInt8 := [124, 42, 43, 63, 40, 41, 91, 93, 123, 125, 46, 92, 94, 36, 45]
theorem inSg_eq (c : Int) (h1 : -1 ≤ c) (h2 : c < 256) : inL sgL c = inSg c := by
  have e : ∀ n : Nat, n < 257 → inL sgL ((n : Int) - 1) = inSg ((n : Int) - 1) := by decide +kernel
  have := e (c + 1).toNat (by omega)
  rw [show (((c + 1).toNat : Int) - 1) = c from by omega] at this
  exact this
theorem nxt_range (l : List UInt8) (s : PS) : -1 ≤ nxt l s ∧ nxt l s < 256 := by
  unfold nxt
  split
  · have := byteAt_lt l s.pos
    omega
  · omega
theorem digit_range (l : List UInt8) (s : PS) : 0 ≤ (digit l s).1 ∧ (digit l s).1 ≤ 15 := by
  unfold digit
  split
  · have := hexv_ge (nxt l s)
    dsimp only
    omega
  · dsimp only
    omega
theorem digit_pos (l : List UInt8) (s : PS) : (digit l s).2.pos ≤ s.pos + 1 := by
  unfold digit
  split
  · exact Nat.le_refl _
  · show (s.fail s.pos).pos ≤ _
    rw [fail_pos]
    omega


end Go.Proofs.Ytmohpjpodkbgkaa.P07
/- The document's parser (layer 7): number. -/
namespace Go.Proofs.Ytmohpjpodkbgkaa.P07
open Go.RowKit Go.Proofs.Ytmohpjpodkbgkaa.Base

/-- The state k bytes on. -/
def PS.on (s : PS) (k : Nat) : PS := { s with pos := s.pos + k }
theorem on_0 (s : PS) : s.on 0 = s := rfl
theorem on_1 (s : PS) : s.on 1 = s.adv := rfl
theorem on_2 (s : PS) : s.on 2 = s.adv.adv := rfl
theorem on_succ (s : PS) (k : Nat) : s.on (k + 1) = (s.on k).adv := rfl
theorem dig_range {c : Int} (h : isDig c = true) : 48 ≤ c ∧ c ≤ 57 := of_decide_eq_true h
theorem dig_no {c : Int} (h : isDig c = false) : ¬ (48 ≤ c ∧ c ≤ 57) := of_decide_eq_false h

/-- What was read, k digits on. -/
def numAt (l : List UInt8) (s : PS) : Nat → Int
  | 0 => 0
  | k + 1 => 10 * numAt l s k + nxt l (s.on k) - 48
/-- So many digits stand there. -/
def digs (l : List UInt8) (s : PS) (k : Nat) : Prop := k ≤ 2 ∧ ∀ j, j < k → isDig (nxt l (s.on j)) = true
theorem digs_0 (l : List UInt8) (s : PS) : digs l s 0 := ⟨by omega, fun j h => absurd h (Nat.not_lt_zero _)⟩
theorem digs_succ {l : List UInt8} {s : PS} {k : Nat} (h : digs l s k) (hk : k < 2) (hd : isDig (nxt l (s.on k)) = true) : digs l s (k + 1) :=
  ⟨by omega, fun j hj => by
    by_cases e : j = k
    · rw [e]; exact hd
    · exact h.2 j (by omega)⟩
theorem numAt_range {l : List UInt8} {s : PS} : ∀ {k}, digs l s k → 0 ≤ numAt l s k ∧ numAt l s k ≤ 999
  | 0, _ => by unfold numAt; omega
  | 1, h => by
    have := dig_range (h.2 0 (by omega))
    unfold numAt numAt
    omega
  | 2, h => by
    have := dig_range (h.2 0 (by omega))
    have := dig_range (h.2 1 (by omega))
    unfold numAt numAt numAt
    omega
  | k + 3, h => by have := h.1; omega
/-- Where it ends. -/
theorem num_end {l : List UInt8} {s : PS} {k : Nat} (h : digs l s k) (he : k = 2 ∨ isDig (nxt l (s.on k)) = false) :
    num l s = (numAt l s k, if k = 0 then s.fail s.pos else s.on k) := by
  match k, h, he with
  | 0, _, he =>
    have e : isDig (nxt l s) = false := by
      rcases he with he | he
      · cases he
      · exact he
    unfold num numB
    rw [e]
    rfl
  | 1, h, he =>
    have e : isDig (nxt l s) = true := h.2 0 (by omega)
    have e2 : isDig (nxt l s.adv) = false := by
      rcases he with he | he
      · cases he
      · exact he
    unfold num numB num2 numB2
    rw [e, e2, if_pos rfl, if_neg (by decide), if_neg (by decide)]
    unfold numAt numAt
    rw [on_0, on_1]
    congr 1
    omega
  | 2, h, _ =>
    have e : isDig (nxt l s) = true := h.2 0 (by omega)
    have e2 : isDig (nxt l s.adv) = true := h.2 1 (by omega)
    unfold num numB num2 numB2
    rw [e, e2, if_pos rfl, if_pos rfl, if_neg (by decide)]
    unfold numAt numAt numAt
    rw [on_0, on_1, on_2]
    congr 1
    omega
  | k + 3, h, _ => exact absurd h.1 (by omega)

end Go.Proofs.Ytmohpjpodkbgkaa.P07
