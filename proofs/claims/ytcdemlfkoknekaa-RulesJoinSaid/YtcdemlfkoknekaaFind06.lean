/- The document's find (layer 6): is there a rule of a name? Over a slice of lines at an address. -/
import Derived.Test.YtcdemlfkoknekaaRule06
namespace Go.Proofs.Ytcdemlfkoknekaa.Ref06
open Go.RowKit Go.Proofs.Ytcdemlfkoknekaa.Base

/-- A line, plain. -/
structure LN where
  name : List UInt8
  text : List UInt8
  place : Int

/-- The lines L lie at a. -/
def LS (w : World) (a : Option Addr) (L : List LN) : Prop :=
  L = [] ∨ ∃ bl off : Nat, a = some ⟨bl, off, none⟩ ∧ bl < w.heap.size ∧ ∀ i r, L[i]? = some r → w.cell? ⟨bl, off + i * 3, none⟩ = some (str r.name) ∧ w.cell? ⟨bl, off + i * 3 + 1, none⟩ = some (str r.text) ∧ w.cell? ⟨bl, off + i * 3 + 2, none⟩ = some (.int .i64 r.place)

theorem LS.keep {S : Nat → Prop} {w w' : World} {a : Option Addr} {L : List LN} (h : LS w a L) (q : Keep S w w') (hn : ∀ x, a = some x → ¬ S x.block) : LS w' a L := by
  rcases h with h | ⟨bl, off, rfl, hb, hc⟩
  · exact .inl h
  · have hS : ¬ S bl := hn ⟨bl, off, none⟩ rfl
    exact .inr ⟨bl, off, rfl, Nat.lt_of_lt_of_le hb q.size, fun i r hr => ⟨(q.cell (a := ⟨bl, off + i * 3, none⟩) hb hS).trans (hc i r hr).1, (q.cell (a := ⟨bl, off + i * 3 + 1, none⟩) hb hS).trans (hc i r hr).2.1, (q.cell (a := ⟨bl, off + i * 3 + 2, none⟩) hb hS).trans (hc i r hr).2.2⟩⟩

theorem LS.get {w : World} {a : Option Addr} {L : List LN} (h : LS w a L) {i : Nat} {r : LN} (hr : L[i]? = some r) : ∃ bl off : Nat, a = some ⟨bl, off, none⟩ ∧ bl < w.heap.size ∧ w.cell? ⟨bl, off + i * 3, none⟩ = some (str r.name) ∧ w.cell? ⟨bl, off + i * 3 + 1, none⟩ = some (str r.text) ∧ w.cell? ⟨bl, off + i * 3 + 2, none⟩ = some (.int .i64 r.place) := by
  rcases h with rfl | ⟨bl, off, rfl, hb, hc⟩
  · simp at hr
  · exact ⟨bl, off, rfl, hb, hc i r hr⟩

/-- Is there one of that name? -/
def findL (L : List LN) (n : List UInt8) : Bool := L.any fun r => decide (r.name = n)
def findTo (L : List LN) (n : List UInt8) (k : Nat) : Bool := (L.take k).any fun r => decide (r.name = n)
theorem findTo_0 (L : List LN) (n : List UInt8) : findTo L n 0 = false := by simp [findTo]
theorem findTo_end (L : List LN) (n : List UInt8) : findTo L n L.length = findL L n := by simp [findTo, findL]
theorem findTo_succ {L : List LN} {n : List UInt8} {k : Nat} {r : LN} (h : L[k]? = some r) : findTo L n (k + 1) = (findTo L n k || decide (r.name = n)) := by
  unfold findTo
  rw [List.take_add_one, h, List.any_append]
  simp
theorem find_yes {L : List LN} {n : List UInt8} {k : Nat} {r : LN} (h : L[k]? = some r) (hn : r.name = n) : findL L n = true := by
  unfold findL
  exact List.any_eq_true.2 ⟨r, List.mem_of_getElem? h, decide_eq_true hn⟩

theorem str_inj {x y : List UInt8} : (⟨x.toArray⟩ : ByteArray) = ⟨y.toArray⟩ ↔ x = y := by
  constructor
  · intro h
    injection h with h
    injection h
  · rintro rfl
    rfl

set_option maxRecDepth 100000 in
set_option maxHeartbeats 1000000 in
theorem find_any (L : List LN) (a : Option Addr) (cap : Nat) (n : List UInt8) (hl : L.length ≤ 1000000) (w : World) (hL : LS w a L) :
    Calls Try.prog 22 #[.slice a L.length cap, str n] w fun e w' => e = .returned (.bool (findL L n)) ∧ w = w' := by
  have HL := Lib.hid hL
  clear hL
  go_enter Try.func22, Try.ntmps22
  go_wp2_with fail
  go_loopg [5] L.length (fun gg i wr => ∃ k : Nat, i = .int .i64 k ∧ k + gg = L.length ∧ findTo L n k = false ∧ w = wr)
  case atStart => exact ⟨0, rfl, by omega, findTo_0 L n, rfl⟩
  case round =>
    obtain ⟨k, rfl, hk, hE, rfl⟩ := hrel
    have HE := Lib.hid hE
    clear hE
    by_cases hlt : k < L.length
    · have hlt' : (k : Int) < L.length := by omega
      obtain ⟨r, hr⟩ : ∃ r, L[k]? = some r := ⟨L[k], List.getElem?_eq_getElem hlt⟩
      obtain ⟨bl, off, rfl, -, c0, -, -⟩ := HL.out.get hr
      have hsu := findTo_succ (n := n) hr
      by_cases hn : r.name = n
      · have hy := find_yes hr hn
        have HY := Lib.hid hy
        rw [hn] at c0
        clear hy hr hsu hn
        go_wp2_with fail
        go_ret
        exact ⟨ret_bool HY.out.symm, rfl⟩
      · have hne : (r.name == n) = false := by simpa using hn
        have HS := Lib.hid (And.intro hsu hn)
        clear hr hsu hn
        go_wp2_with fail
        go_roundg (L.length - (k + 1))
        case measure => omega
        case rel => exact ⟨k + 1, by go_num, by omega, by rw [HS.out.1, HE.out, decide_eq_false HS.out.2]; rfl, rfl⟩
    · have hke : k = L.length := by omega
      subst hke
      go_wp2_with fail
      go_ret
      exact ⟨ret_bool (by rw [← findTo_end, HE.out]), rfl⟩
end Go.Proofs.Ytcdemlfkoknekaa.Ref06
