/- Which bytes are written as themselves, and how a byte is written: contracts of bytes256's plain and Escape and of the document's own. -/
import Derived.Test.YtmohpjpodkbgkaaKK16
import Derived.Test.YtmohpjpodkbgkaaKK02
namespace Go.Proofs.Ytmohpjpodkbgkaa.Bytes
open Go.RowKit Go.Proofs.Ytmohpjpodkbgkaa.Base Go.Proofs.Ytmohpjpodkbgkaa.Sets

def signs : List UInt8 := [32, 33, 34, 35, 37, 38, 39, 44, 47, 58, 59, 60, 61, 62, 64, 95, 96, 126]
/-- Where among the signs; -1: it is none. -/
def sgn (b : Nat) : Int := Lib.indexByte signs (UInt8.ofNat b)
def alnum (b : Nat) : Bool := decide (97 ≤ b ∧ b ≤ 122 ∨ 65 ≤ b ∧ b ≤ 90 ∨ 48 ≤ b ∧ b ≤ 57)
/-- Is it written as itself? -/
def plainB (b : Nat) : Bool := alnum b || decide (0 ≤ sgn b)

theorem idx_any (b : Nat) (w : World) : Calls Try.prog 97 #[.string ⟨#[32, 33, 34, 35, 37, 38, 39, 44, 47, 58, 59, 60, 61, 62, 64, 95, 96, 126]⟩, .int .u8 b] w fun e w' => e = .returned (.int .i64 (sgn b)) ∧ w = w' := by
  refine (Lay.strings_IndexByte _ (b : Int) w).mono ?_
  rintro e w' ⟨rfl, rfl⟩
  exact ⟨by rw [Int.toNat_natCast]; rfl, rfl⟩

theorem plain_yes {b : Nat} (h : 97 ≤ b ∧ b ≤ 122 ∨ 65 ≤ b ∧ b ≤ 90 ∨ 48 ≤ b ∧ b ≤ 57) : true = plainB b := by
  unfold plainB alnum
  rw [decide_eq_true h]
  rfl
theorem plain_no {b : Nat} (h : ¬ (97 ≤ b ∧ b ≤ 122 ∨ 65 ≤ b ∧ b ≤ 90 ∨ 48 ≤ b ∧ b ≤ 57)) : decide (0 ≤ sgn b) = plainB b := by
  unfold plainB alnum
  rw [decide_eq_false h]
  rfl

set_option maxRecDepth 100000 in
theorem plain_any (b : Nat) (hb : b < 256) (w : World) : Calls Try.prog 98 #[.int .u8 b] w fun e w' => e = .returned (.bool (plainB b)) ∧ w = w' := by
  go_enter Try.func98, Try.ntmps98
  go_wp2_with fail
  all_goals first
    | (go_ret; exact ⟨ret_bool (plain_yes (by omega)), rfl⟩)
    | (refine (idx_any b w).mono ?_
       rintro e w' ⟨rfl, rfl⟩
       have hn := plain_no (b := b) (by omega)
       have HN := Lib.hid hn
       clear hn
       generalize sgn b = i at *
       go_wp2
       go_ret
       refine ⟨ret_bool ?_, rfl⟩
       first
         | exact HN.out
         | (rw [← HN.out, Bool.eq_iff_iff]; simp; omega))

theorem sgn_iff : ∀ b, b < 256 → (decide (0 ≤ sgn b) = true ↔ ∃ j, j < 18 ∧ (signs.getD j 0).toNat = b) := by decide +kernel

@[reducible] def signsV : Value := .string ⟨#[32, 33, 34, 35, 37, 38, 39, 44, 47, 58, 59, 60, 61, 62, 64, 95, 96, 126]⟩

/-- The j-th sign. -/
def sgnAt (j : Nat) : UInt8 := signs.getD j 0
theorem sgnAt_eq : ∀ j, j < 18 → (ByteArray.mk #[32, 33, 34, 35, 37, 38, 39, 44, 47, 58, 59, 60, 61, 62, 64, 95, 96, 126])[j]? = some (sgnAt j) := by decide +kernel

theorem sign_run (k : Nat) (hk : k < 18) (w : World) : (Instr.index 9 signsV (.int .i64 k)).run Try.prog w = .ok (.int .u8 ((sgnAt k).toNat)) w := by
  have h : (0 : Int) ≤ (k : Int) ∧ (k : Int) < 18 := by omega
  have e := sgnAt_eq k hk
  simp [Instr.index, run_underlying (P := Try.prog) Try.underlying9, asIntOf, h, e, go_sem]

def hexs : List UInt8 := [48, 49, 50, 51, 52, 53, 54, 55, 56, 57, 97, 98, 99, 100, 101, 102]
/-- A digit of sixteen. -/
def hexd (k : Nat) : UInt8 := hexs.getD k 0
@[reducible] def hexV : Value := .string ⟨#[48, 49, 50, 51, 52, 53, 54, 55, 56, 57, 97, 98, 99, 100, 101, 102]⟩
theorem hexd_eq : ∀ j, j < 16 → (ByteArray.mk #[48, 49, 50, 51, 52, 53, 54, 55, 56, 57, 97, 98, 99, 100, 101, 102])[j]? = some (hexd j) := by decide +kernel
theorem hex_run (k : Nat) (hk : k < 16) (w : World) : (Instr.index 9 hexV (.int .u8 k)).run Try.prog w = .ok (.int .u8 ((hexd k).toNat)) w := by
  have h : (0 : Int) ≤ (k : Int) ∧ (k : Int) < 16 := by omega
  have e := hexd_eq k hk
  simp [Instr.index, run_underlying (P := Try.prog) Try.underlying9, asIntOf, h, e, go_sem]

/-- How a byte is written. -/
def esc (b : Nat) : List UInt8 := if plainB b then [UInt8.ofNat b] else [92, 120, hexd (b / 16), hexd (b % 16)]

/-- A text. -/
@[reducible] def str (l : List UInt8) : Value := .string ⟨l.toArray⟩

theorem conv1 (b : Nat) (hb : b < 256) (w : World) : (convert 71 9 (.slice (some ⟨w.heap.size, 0, none⟩) 1 1)).run Try.prog (w.alloc (.cells #[.int .u8 b] 5)) = .ok (str [UInt8.ofNat b]) (w.alloc (.cells #[.int .u8 b] 5)) := by
  refine run_convert_bytes_back (P := Try.prog) _ _ _ 5 ⟨w.heap.size, 0, none⟩ 1 [UInt8.ofNat b] Try.underlying71 Try.underlying5 Try.underlying9 (fun j hj => ?_)
  obtain rfl : j = 0 := by simp at hj; omega
  have e : (UInt8.ofNat b).toNat = b := by simp; omega
  have h := (At.new w #[.int .u8 b] 5).cell (o := 0) rfl
  simp only [List.getElem_cons_zero, e]
  exact h

theorem conv4 (x y : UInt8) (w : World) : (convert 71 9 (.slice (some ⟨w.heap.size, 0, none⟩) 4 4)).run Try.prog (w.alloc (.cells #[.int .u8 92, .int .u8 120, .int .u8 x.toNat, .int .u8 y.toNat] 5)).drew = .ok (str [92, 120, x, y]) (w.alloc (.cells #[.int .u8 92, .int .u8 120, .int .u8 x.toNat, .int .u8 y.toNat] 5)).drew := by
  have h := At.new w #[.int .u8 92, .int .u8 120, .int .u8 x.toNat, .int .u8 y.toNat] 5
  refine run_convert_bytes_back (P := Try.prog) _ _ _ 5 ⟨w.heap.size, 0, none⟩ 4 [92, 120, x, y] Try.underlying71 Try.underlying5 Try.underlying9 (fun j hj => ?_)
  match j, hj with
  | 0, _ => exact h.cell rfl
  | 1, _ => exact h.cell rfl
  | 2, _ => exact h.cell rfl
  | 3, _ => exact h.cell rfl

theorem esc_any (b : Nat) (hb : b < 256) (w : World) : Calls Try.prog 94 #[.int .u8 b] w fun e w' => e = .returned (str (esc b)) ∧ Keep (fun _ => False) w w' := by
  go_enter Try.func94, Try.ntmps94
  go_wp2_with fail
  refine (plain_any b hb w).mono ?_
  rintro e w' ⟨rfl, rfl⟩
  cases hp : plainB b with
  | true =>
    have c := conv1 b hb w
    have he : str (esc b) = str [UInt8.ofNat b] := by rw [esc, if_pos hp]
    have HE := Lib.hid he
    clear he hp
    go_wp2
    go_ret
    exact ⟨by rw [HE.out]; rfl, (Keep.refl _ _).alloc _⟩
  | false =>
    have i1 : ∀ w, (Instr.index 9 hexV (.int .u8 ((b : Int) / 16))).run Try.prog w = .ok (.int .u8 ((hexd (b / 16)).toNat)) w := hex_run (b / 16) (by omega)
    have i2 : ∀ w, (Instr.index 9 hexV (.int .u8 ((b : Int) % 16))).run Try.prog w = .ok (.int .u8 ((hexd (b % 16)).toNat)) w := hex_run (b % 16) (by omega)
    have c := conv4 (hexd (b / 16)) (hexd (b % 16)) w
    have he : str (esc b) = str [92, 120, hexd (b / 16), hexd (b % 16)] := by rw [esc, if_neg (by simp [hp])]
    have HE := Lib.hid he
    clear he hp
    go_wp2_with fail
    go_region
    go_wp2
    go_ret
    exact ⟨by rw [HE.out]; rfl, ((Keep.refl _ _).alloc _).drew⟩

set_option maxRecDepth 100000 in
theorem rplain_any (b : Nat) (hb : b < 256) (w : World) : Calls Try.prog 62 #[.int .i64 b] w fun e w' => e = .returned (.bool (plainB b)) ∧ w = w' := by
  go_enter Try.func62, Try.ntmps62
  go_wp2_with fail
  all_goals first
    | (go_ret; exact ⟨ret_bool (plain_yes (by omega)), rfl⟩)
    | skip
  all_goals
    have hn := plain_no (b := b) (by omega)
    have HN := Lib.hid hn
    clear hn
    go_loopg [4] 18 (fun gg i wr => ∃ k : Nat, i = .int .i64 k ∧ k + gg = 18 ∧ (∀ j, j < k → (sgnAt j).toNat ≠ b) ∧ wr = w)
    case atStart => exact ⟨0, rfl, rfl, fun j hj => (by omega), rfl⟩
    case round =>
      obtain ⟨k, rfl, hk, hj, rfl⟩ := hrel
      by_cases hlt : k < 18
      · have hi := sign_run k hlt wr
        have hlt' : (k : Int) < 18 := by omega
        have hu := (sgnAt k).toNat_lt
        by_cases he : (sgnAt k).toNat = b
        · have heb : (((sgnAt k).toNat : Int) == (b : Int)) = true := by rw [he]; simp
          have hs : true = plainB b := by rw [← HN.out]; exact ((sgn_iff b hb).2 ⟨k, hlt, he⟩).symm
          have HS := Lib.hid hs
          have HJ := Lib.hid (And.intro hk hj)
          clear hs hk hj he
          generalize (sgnAt k).toNat = u at *
          go_wp2
          go_ret
          exact ⟨ret_bool HS.out, rfl⟩
        · have heb : (((sgnAt k).toNat : Int) == (b : Int)) = false := by simp; omega
          have HJ := Lib.hid (And.intro hk (And.intro hj he))
          clear hk hj he
          go_wp2
          go_roundg (18 - (k + 1))
          case measure => have := HJ.out.1; omega
          case rel => exact ⟨k + 1, by go_num, by have := HJ.out.1; omega, fun j h => (by rcases Nat.lt_succ_iff_lt_or_eq.1 h with h | rfl; exact HJ.out.2.1 j h; exact HJ.out.2.2), rfl⟩
      · have hk18 : k = 18 := by omega
        subst hk18
        have hs : false = plainB b := by
          rw [← HN.out]
          cases hd : decide (0 ≤ sgn b)
          · rfl
          · obtain ⟨j, h1, h2⟩ := (sgn_iff b hb).1 hd
            exact absurd h2 (hj j h1)
        have HS := Lib.hid hs
        clear hs hj hk
        go_wp2
        go_ret
        exact ⟨ret_bool HS.out, rfl⟩
end Go.Proofs.Ytmohpjpodkbgkaa.Bytes
/- Contract of the document's Escape, and of bytes256's span. -/
namespace Go.Proofs.Ytmohpjpodkbgkaa.Bytes
open Go.RowKit Go.Proofs.Ytmohpjpodkbgkaa.Base Go.Proofs.Ytmohpjpodkbgkaa.Sets

theorem hexd_cut : ∀ j, j < 16 → (ByteArray.mk #[48, 49, 50, 51, 52, 53, 54, 55, 56, 57, 97, 98, 99, 100, 101, 102]).extract j (j + 1) = ⟨#[hexd j]⟩ := by decide +kernel

theorem slice_run (k : Nat) (hk : k < 16) (w : World) : (Instr.slice 9 hexV (some (.int .i64 k)) (some (.int .i64 ((k : Int) + 1))) none).run Try.prog w = .ok (str [hexd k]) w := by
  have h : (0 : Int) ≤ (k : Int) + 1 ∧ (k : Int) + 1 ≤ (16 : Nat) := by omega
  have h2 : (0 : Int) ≤ (k : Int) ∧ (k : Int) ≤ (k : Int) + 1 := by omega
  have h3 : ((k : Int) + 1).toNat = k + 1 := by omega
  have e := hexd_cut k hk
  simp [Instr.slice, Instr.sliceBounds, Instr.sliceBound, run_underlying (P := Try.prog) Try.underlying9, asIntOf, h, h2, h3, e, go_sem]
  intro hc
  exact absurd hc (by omega)

theorem str_append (a b : List UInt8) : (ByteArray.mk a.toArray ++ ByteArray.mk b.toArray) = ⟨(a ++ b).toArray⟩ := by
  apply ByteArray.ext
  simp

theorem ret_str {a b : ByteArray} (h : a = b) : Ending.returned (.string a) = .returned (.string b) := by rw [h]

theorem esc_len (b : Nat) : (esc b).length ≤ 4 := by
  unfold esc
  split <;> simp

set_option maxRecDepth 100000 in
theorem resc_any (b : Nat) (hb : b < 256) (w : World) : Calls Try.prog 46 #[.int .i64 b] w fun e w' => e = .returned (str (esc b)) ∧ Keep (fun _ => False) w w' := by
  go_enter Try.func46, Try.ntmps46
  go_wp2_with fail
  refine (rplain_any b hb w).mono ?_
  rintro e w' ⟨rfl, rfl⟩
  cases hp : plainB b with
  | true =>
    have c := conv1 b hb w
    have he : str (esc b) = str [UInt8.ofNat b] := by rw [esc, if_pos hp]
    have HE := Lib.hid he
    clear he hp
    go_wp2
    go_ret
    exact ⟨by rw [HE.out]; rfl, (Keep.refl _ _).alloc _⟩
  | false =>
    have he : str (esc b) = str [92, 120, hexd (b / 16), hexd (b % 16)] := by rw [esc, if_neg (by simp [hp])]
    have HE := Lib.hid he
    clear he hp
    have j0 : IntKind.i64.wrap ((b : Int) / 16) = (b : Int) / 16 := by rw [IntKind.wrap_i64]; omega
    have j01 : IntKind.i64.wrap ((b : Int) % 16) = (b : Int) % 16 := by rw [IntKind.wrap_i64]; omega
    have j1 : IntKind.i64.wrap ((b : Int) / 16 + 1) = (b : Int) / 16 + 1 := by rw [IntKind.wrap_i64]; omega
    have j2 : IntKind.i64.wrap ((b : Int) % 16 + 1) = (b : Int) % 16 + 1 := by rw [IntKind.wrap_i64]; omega
    have i1 : ∀ w, (Instr.slice 9 hexV (some (.int .i64 ((b : Int) / 16))) (some (.int .i64 ((b : Int) / 16 + 1))) none).run Try.prog w = .ok (str [hexd (b / 16)]) w := slice_run (b / 16) (by omega)
    have i2 : ∀ w, (Instr.slice 9 hexV (some (.int .i64 ((b : Int) % 16))) (some (.int .i64 ((b : Int) % 16 + 1))) none).run Try.prog w = .ok (str [hexd (b % 16)]) w := slice_run (b % 16) (by omega)
    have k1 : (0 : Int) ≤ (b : Int) / 16 := by omega
    have k2 : (b : Int) / 16 < 16 := by omega
    have k3 : (0 : Int) ≤ (b : Int) % 16 := by omega
    have k4 : (b : Int) % 16 < 16 := by omega
    go_wp2_with fail
    go_quiet (fail)
    go_wp2
    go_ret
    exact ⟨by rw [HE.out]; exact ret_str (ByteArray.ext (by simp)), (Keep.refl _ _).drewN _⟩

/-- A range, as it stands in a class. -/
def spanT (lo hi : Nat) : List UInt8 := if hi = lo then esc lo else if hi = lo + 1 then esc lo ++ esc hi else esc lo ++ [45] ++ esc hi

end Go.Proofs.Ytmohpjpodkbgkaa.Bytes
