/- The document's parser (layer 7) in memory: its state; next, fail, must. -/
import Derived.Test.YtmeiboaagkoadaaGreatDoorKK03
import Derived.Test.YtmeiboaagkoadaaGreatDoorChecked
import Derived.Test.YtmeiboaagkoadaaGreatDoorKK01
import Derived.Deep.LoopGhost
import Derived.TacticsInMore
namespace Go.Proofs.YtmeiboaagkoadaaGreatDoor.P07
open Go.RowKit Go.Proofs.YtmeiboaagkoadaaGreatDoor.Base

/-- A string's value, by its bytes. -/
@[reducible] def str (l : List UInt8) : Value := .string ⟨l.toArray⟩
theorem ret_bool {a b : Bool} (h : a = b) : Ending.returned (.bool a) = .returned (.bool b) := by rw [h]
theorem ret_int {k : IntKind} {a b : Int} (h : a = b) : Ending.returned (.int k a) = .returned (.int k b) := by rw [h]
theorem size_str (l : List UInt8) : ByteArray.size ⟨l.toArray⟩ = l.length := rfl
theorem byteAt_lt (l : List UInt8) (k : Nat) : byteAt l k < 256 := UInt8.toNat_lt _
theorem index_run (l : List UInt8) (k : Nat) (h : k < l.length) (w : World) : (Instr.index 9 (str l) (.int .i64 k)).run Tryz.prog w = .ok (.int .u8 (byteAt l k)) w := by
  have h1 : ByteArray.size ⟨l.toArray⟩ = l.length := rfl
  have e : l[k]?.getD 0 = l[k] := by
    rw [List.getElem?_eq_getElem h]
    rfl
  unfold byteAt
  rw [e]
  simp [Instr.index, run_underlying (P := Tryz.prog) Tryz.underlying9, asIntOf, h1, h, go_sem]
  rfl

def badI : Option Nat → Int
  | none => -1
  | some b => b
@[reducible] def pcells (l : List UInt8) (s : PS) : Array Value := #[str l, .int .i64 s.pos, .int .i64 (badI s.bad), .int .i64 s.opn]
end Go.Proofs.YtmeiboaagkoadaaGreatDoor.P07
/- The document's parser (layer 7): must, hex, digit, in, plain, one. -/
namespace Go.Proofs.YtmeiboaagkoadaaGreatDoor.P07
open Go.RowKit Go.Proofs.YtmeiboaagkoadaaGreatDoor.Base

theorem upk {w w' : World} (b : Nat) (q : Keep (fun _ => False) w w') : Keep (fun i => i = b) w w' := q.mono (fun _ h => h.elim)

def hexs : List UInt8 := [48, 49, 50, 51, 52, 53, 54, 55, 56, 57, 97, 98, 99, 100, 101, 102]
theorem hexs_at : ∀ k, k < 16 → hexv (byteAt hexs k) = k := by decide +kernel
theorem hexv_ge (c : Int) : -1 ≤ hexv c ∧ hexv c ≤ 15 := by
  unfold hexv
  split
  · omega
  · split <;> omega
theorem hexs_no (c : Int) (h : ∀ k, k < 16 → (byteAt hexs k : Int) ≠ c) : hexv c = -1 := by
  have e : ∀ k, k < 16 → (byteAt hexs k : Int) = if k < 10 then (k : Int) + 48 else (k : Int) + 87 := by decide +kernel
  by_cases h1 : 48 ≤ c ∧ c ≤ 57
  · have := h (c - 48).toNat (by omega)
    rw [e _ (by omega), if_pos (by omega)] at this
    omega
  · by_cases h2 : 97 ≤ c ∧ c ≤ 102
    · have := h (c - 87).toNat (by omega)
      rw [e _ (by omega), if_neg (by omega)] at this
      omega
    · unfold hexv
      rw [if_neg h1, if_neg h2]

/-- Is a byte one of some? -/
def inL (l : List UInt8) (c : Int) : Bool := (List.range l.length).any fun k => decide ((byteAt l k : Int) = c)
theorem inL_yes {l : List UInt8} {c : Int} {k : Nat} (hk : k < l.length) (h : (byteAt l k : Int) = c) : inL l c = true := List.any_eq_true.2 ⟨k, List.mem_range.2 hk, decide_eq_true h⟩
theorem inL_no {l : List UInt8} {c : Int} (h : ∀ k, k < l.length → (byteAt l k : Int) ≠ c) : inL l c = false := by
  rw [Bool.eq_false_iff]
  intro e
  obtain ⟨k, hk, h1⟩ := List.any_eq_true.1 e
  exact h k (List.mem_range.1 hk) (of_decide_eq_true h1)

/-- The state behind a place that is wrong. -/
theorem fail_pos (s : PS) (k : Nat) : (s.fail k).pos = s.pos := by
  unfold PS.fail
  split <;> rfl
end Go.Proofs.YtmeiboaagkoadaaGreatDoor.P07
/- The document's letter, Name, end (layer 6), over strings as lists of bytes. -/
namespace Go.Proofs.YtmeiboaagkoadaaGreatDoor.Ref06
open Go.RowKit Go.Proofs.YtmeiboaagkoadaaGreatDoor.Base

/-- A string's value, by its bytes. -/
@[reducible] def str (l : List UInt8) : Value := .string ⟨l.toArray⟩
theorem ret_bool {a b : Bool} (h : a = b) : Ending.returned (.bool a) = .returned (.bool b) := by rw [h]
theorem ret_int {k : IntKind} {a b : Int} (h : a = b) : Ending.returned (.int k a) = .returned (.int k b) := by rw [h]

/-- The k-th byte. -/
def byteAt (l : List UInt8) (k : Nat) : Nat := (l[k]?.getD 0).toNat
theorem byteAt_lt (l : List UInt8) (k : Nat) : byteAt l k < 256 := UInt8.toNat_lt _
theorem index_run (l : List UInt8) (k : Nat) (h : k < l.length) (w : World) : (Instr.index 9 (str l) (.int .i64 k)).run Tryz.prog w = .ok (.int .u8 (byteAt l k)) w := by
  have h1 : ByteArray.size ⟨l.toArray⟩ = l.length := rfl
  have e : l[k]?.getD 0 = l[k] := by
    rw [List.getElem?_eq_getElem h]
    rfl
  unfold byteAt
  rw [e]
  simp [Instr.index, run_underlying (P := Tryz.prog) Tryz.underlying9, asIntOf, h1, h, go_sem]
  rfl

/-- May a byte stand in a name? -/
def letB (b : Nat) : Bool := decide (97 ≤ b ∧ b ≤ 122) || decide (65 ≤ b ∧ b ≤ 90) || decide (48 ≤ b ∧ b ≤ 57) || decide (b = 95)

theorem letter_any (b : Nat) (hb : b < 256) (w : World) : Calls Tryz.prog 67 #[.int .u8 b] w fun e w' => e = .returned (.bool (letB b)) ∧ w = w' := by
  go_enter Tryz.func67, Tryz.ntmps67
  go_wp2
  all_goals
    go_ret
    exact ⟨ret_bool (by unfold letB; rw [Bool.eq_iff_iff]; simp; omega), rfl⟩

/-- Where the line ends that begins at a. -/
def endN (l : List UInt8) (a : Nat) : Nat := a + ((l.drop a).takeWhile fun c => c.toNat != 10).length
theorem endN_out {l : List UInt8} {a : Nat} (h : l.length ≤ a) : endN l a = a := by
  unfold endN
  rw [List.drop_eq_nil_of_le h]
  simp
theorem endN_stop {l : List UInt8} {a : Nat} (h : a < l.length) (hb : byteAt l a = 10) : endN l a = a := by
  have e : (l[a]).toNat = 10 := by
    unfold byteAt at hb
    rw [List.getElem?_eq_getElem h] at hb
    exact hb
  unfold endN
  rw [List.drop_eq_getElem_cons h, List.takeWhile_cons_of_neg (by simp [e])]
  simp
theorem endN_go {l : List UInt8} {a : Nat} (h : a < l.length) (hb : byteAt l a ≠ 10) : endN l a = endN l (a + 1) := by
  have e : (l[a]).toNat ≠ 10 := by
    unfold byteAt at hb
    rw [List.getElem?_eq_getElem h] at hb
    exact hb
  unfold endN
  rw [List.drop_eq_getElem_cons h, List.takeWhile_cons_of_pos (by simp [e])]
  simp
  omega
theorem endN_le {l : List UInt8} {a : Nat} (h : a ≤ l.length) : endN l a ≤ l.length := by
  have := (List.takeWhile_prefix (l := l.drop a) fun c => c.toNat != 10).length_le
  unfold endN
  rw [List.length_drop] at this
  omega
theorem endN_ge (l : List UInt8) (a : Nat) : a ≤ endN l a := Nat.le_add_right _ _

theorem size_str (l : List UInt8) : ByteArray.size ⟨l.toArray⟩ = l.length := rfl

set_option maxRecDepth 100000 in
set_option maxHeartbeats 1000000 in
theorem end_any (l : List UInt8) (hl : l.length ≤ 1000000000) (a : Nat) (ha : a ≤ l.length) (w : World) : Calls Tryz.prog 46 #[str l, .int .i64 a] w fun e w' => e = .returned (.int .i64 (endN l a)) ∧ w = w' := by
  obtain ⟨E, hE⟩ : ∃ E, endN l a = E := ⟨_, rfl⟩
  rw [hE]
  have HE := Lib.hid hE
  clear hE
  have hs := size_str l
  have hix := index_run l
  obtain ⟨B, hB⟩ : ∃ B : ByteArray, (⟨l.toArray⟩ : ByteArray) = B := ⟨_, rfl⟩
  unfold str at hix ⊢
  rw [hB] at hs hix ⊢
  clear hB
  have HIX := Lib.hid hix
  clear hix
  go_enter Tryz.func46, Tryz.ntmps46
  go_wp2_with fail
  go_loopg [1] (l.length - a) (fun gg i wr => ∃ k : Nat, i = .int .i64 k ∧ k + gg = l.length ∧ endN l k = E ∧ w = wr)
  case atStart => exact ⟨a, rfl, by omega, HE.out, rfl⟩
  case round =>
    obtain ⟨k, rfl, hk, hE, rfl⟩ := hrel
    have HK := Lib.hid hE
    clear hE
    by_cases hlt : k < l.length
    · have hlt' : (k : Int) < l.length := by omega
      have hi := HIX.out k hlt
      have hb := byteAt_lt l k
      by_cases h10 : byteAt l k = 10
      · have hst := endN_stop hlt h10
        have HS := Lib.hid hst
        clear hst
        generalize byteAt l k = c at *
        have hc : ((c : Int) != 10) = false := by simp; omega
        go_wp2_with fail
        go_ret
        exact ⟨ret_int (by rw [← HK.out, HS.out]), rfl⟩
      · have hgo := endN_go hlt h10
        have HS := Lib.hid hgo
        clear hgo
        generalize byteAt l k = c at *
        have hc : ((c : Int) != 10) = true := by simp; omega
        go_wp2_with fail
        go_roundg (l.length - (k + 1))
        case measure => omega
        case rel => exact ⟨k + 1, by go_num, by omega, by rw [← HS.out]; exact HK.out, rfl⟩
    · have hke : ¬ (k : Int) < l.length := by omega
      have ho := endN_out (l := l) (a := k) (by omega)
      have HS := Lib.hid ho
      clear ho
      go_wp2_with fail
      go_ret
      exact ⟨ret_int (by rw [← HK.out, HS.out]), rfl⟩

/-- May a text be a name? -/
def nameL (l : List UInt8) : Bool := (l.all fun c => letB c.toNat) && decide (1 ≤ l.length ∧ l.length ≤ 12)
def allTo (l : List UInt8) (k : Nat) : Bool := (l.take k).all fun c => letB c.toNat
theorem allTo_0 (l : List UInt8) : allTo l 0 = true := by simp [allTo]
theorem allTo_end (l : List UInt8) : allTo l l.length = l.all fun c => letB c.toNat := by simp [allTo]
theorem allTo_succ {l : List UInt8} {k : Nat} (h : k < l.length) : allTo l (k + 1) = (allTo l k && letB (byteAt l k)) := by
  unfold allTo byteAt
  rw [List.take_add_one, List.getElem?_eq_getElem h, List.all_append]
  simp
theorem all_no {l : List UInt8} {k : Nat} (h : k < l.length) (hb : letB (byteAt l k) = false) : (l.all fun c => letB c.toNat) = false := by
  unfold byteAt at hb
  rw [List.getElem?_eq_getElem h] at hb
  rw [Bool.eq_false_iff]
  intro e
  have := List.all_eq_true.1 e l[k] (List.getElem_mem h)
  have hb' : letB (l[k]).toNat = false := hb
  rw [hb'] at this
  cases this

theorem letter_is {b : Nat} {v : Bool} (hb : b < 256) (h : letB b = v) (w : World) : Calls Tryz.prog 67 #[.int .u8 b] w fun e w' => e = .returned (.bool v) ∧ w = w' := by
  rw [← h]
  exact letter_any b hb w

set_option maxRecDepth 100000 in
set_option maxHeartbeats 1000000 in
theorem name_any (l : List UInt8) (hl : l.length ≤ 1000000000) (w : World) : Calls Tryz.prog 44 #[str l] w fun e w' => e = .returned (.bool (nameL l)) ∧ w = w' := by
  have hs := size_str l
  have hix := index_run l
  obtain ⟨B, hB⟩ : ∃ B : ByteArray, (⟨l.toArray⟩ : ByteArray) = B := ⟨_, rfl⟩
  unfold str at hix ⊢
  rw [hB] at hs hix ⊢
  clear hB
  have HIX := Lib.hid hix
  clear hix
  obtain ⟨v, hv⟩ : ∃ v, nameL l = v := ⟨_, rfl⟩
  rw [hv]
  have HV := Lib.hid hv
  clear hv
  go_enter Tryz.func44, Tryz.ntmps44
  go_wp2_with fail
  go_loopg [3] l.length (fun gg i wr => ∃ k : Nat, i = .int .i64 k ∧ k + gg = l.length ∧ allTo l k = true ∧ w = wr)
  case atStart => exact ⟨0, rfl, by omega, allTo_0 l, rfl⟩
  case round =>
    obtain ⟨k, rfl, hk, hE, rfl⟩ := hrel
    have HK := Lib.hid hE
    clear hE
    by_cases hlt : k < l.length
    · have hlt' : (k : Int) < l.length := by omega
      have hi := HIX.out k hlt
      have hb := byteAt_lt l k
      have hsu := allTo_succ hlt
      obtain ⟨x, hx⟩ : ∃ x, letB (byteAt l k) = x := ⟨_, rfl⟩
      have hno := fun e : letB (byteAt l k) = false => all_no hlt e
      have HX := Lib.hid (And.intro hx (And.intro hsu hno))
      clear hx hsu hno
      generalize byteAt l k = c at *
      go_wp2_with fail
      refine (letter_is hb HX.out.1 w).mono ?_
      rintro e w' ⟨rfl, rfl⟩
      cases x
      · go_wp2_with fail
        go_ret
        exact ⟨ret_bool (by rw [← HV.out]; unfold nameL; rw [HX.out.2.2 HX.out.1]; rfl), rfl⟩
      · go_wp2_with fail
        go_roundg (l.length - (k + 1))
        case measure => omega
        case rel => exact ⟨k + 1, by go_num, by omega, by rw [HX.out.2.1, HK.out, HX.out.1]; rfl, rfl⟩
    · have hke : k = l.length := by omega
      subst hke
      have hall : (l.all fun c => letB c.toNat) = true := by rw [← allTo_end]; exact HK.out
      have hn : nameL l = decide (1 ≤ l.length ∧ l.length ≤ 12) := by unfold nameL; rw [hall]; rfl
      have HN := Lib.hid hn
      clear hn hall
      generalize l.length = n at *
      go_wp2_with fail
      all_goals
        go_ret
        exact ⟨ret_bool (by rw [← HV.out, HN.out, Bool.eq_iff_iff]; simp; omega), rfl⟩

end Go.Proofs.YtmeiboaagkoadaaGreatDoor.Ref06
