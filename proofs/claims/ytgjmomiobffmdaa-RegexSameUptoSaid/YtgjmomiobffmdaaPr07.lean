/- The document's parser (layer 7) in memory: its state; next, fail, must. -/
import Derived.Test.YtgjmomiobffmdaaBase
import Derived.Test.YtgjmomiobffmdaaChecked
import Derived.Test.YtgjmomiobffmdaaP07
import Derived.Deep.LoopGhost
import Derived.TacticsInMore
namespace Go.Proofs.Ytgjmomiobffmdaa.P07
open Go.RowKit Go.Proofs.Ytgjmomiobffmdaa.Base

/-- A string's value, by its bytes. -/
@[reducible] def str (l : List UInt8) : Value := .string ⟨l.toArray⟩
theorem ret_bool {a b : Bool} (h : a = b) : Ending.returned (.bool a) = .returned (.bool b) := by rw [h]
theorem ret_int {k : IntKind} {a b : Int} (h : a = b) : Ending.returned (.int k a) = .returned (.int k b) := by rw [h]
theorem size_str (l : List UInt8) : ByteArray.size ⟨l.toArray⟩ = l.length := rfl
theorem byteAt_lt (l : List UInt8) (k : Nat) : byteAt l k < 256 := UInt8.toNat_lt _
theorem index_run (l : List UInt8) (k : Nat) (h : k < l.length) (w : World) : (Instr.index 9 (str l) (.int .i64 k)).run Try.prog w = .ok (.int .u8 (byteAt l k)) w := by
  have h1 : ByteArray.size ⟨l.toArray⟩ = l.length := rfl
  have e : l[k]?.getD 0 = l[k] := by
    rw [List.getElem?_eq_getElem h]
    rfl
  unfold byteAt
  rw [e]
  simp [Instr.index, run_underlying (P := Try.prog) Try.underlying9, asIntOf, h1, h, go_sem]
  rfl

def badI : Option Nat → Int
  | none => -1
  | some b => b
@[reducible] def pcells (l : List UInt8) (s : PS) : Array Value := #[str l, .int .i64 s.pos, .int .i64 (badI s.bad), .int .i64 s.opn]
/-- The parser in block b. -/
def Pr (w : World) (b : Nat) (l : List UInt8) (s : PS) : Prop := At w b 54 (pcells l s)

theorem Pr.keep {S : Nat → Prop} {w w' : World} {b : Nat} {l : List UInt8} {s : PS} (h : Pr w b l s) (q : Keep S w w') (hn : ¬ S b) : Pr w' b l s := At.keep h q hn

set_option maxRecDepth 100000 in
set_option maxHeartbeats 1000000 in
theorem next_any (b : Nat) (l : List UInt8) (s : PS) (w : World) (h : Pr w b l s) :
    Calls Try.prog 26 #[.pointer (some ⟨b, 0, none⟩)] w fun e w' => e = .returned (.int .i64 (nxt l s)) ∧ Keep (fun _ => False) w w' := by
  have c0 : w.cell? ⟨b, 0, none⟩ = some (str l) := h.cell (o := 0) rfl
  have c1 : w.cell? ⟨b, 1, none⟩ = some (.int .i64 s.pos) := h.cell (o := 1) rfl
  have c2 : w.cell? ⟨b, 2, none⟩ = some (.int .i64 (badI s.bad)) := h.cell (o := 2) rfl
  have hs := size_str l
  have hix := index_run l
  obtain ⟨B, hB⟩ : ∃ B : ByteArray, (⟨l.toArray⟩ : ByteArray) = B := ⟨_, rfl⟩
  unfold str at hix c0
  rw [hB] at hs hix c0
  clear hB h
  have HIX := Lib.hid hix
  clear hix
  cases hb : s.bad with
  | some x =>
    rw [hb] at c2
    have hn := nxt_bad (l := l) hb
    rw [hn]
    have c2' : w.cell? ⟨b, 2, none⟩ = some (.int .i64 (x : Int)) := c2
    have hx : (0 : Int) ≤ x := by omega
    clear c2 hn hb
    go_enter Try.func26, Try.ntmps26
    go_wp2_with fail
    go_quiet (fail)
    go_wp2_with fail
    go_ret
    exact ⟨rfl, (Keep.refl _ _).drewN _⟩
  | none =>
    rw [hb] at c2
    have c2' : w.cell? ⟨b, 2, none⟩ = some (.int .i64 (-1)) := c2
    have hx : ¬ (0 : Int) ≤ -1 := by omega
    clear c2
    by_cases hlt : s.pos < l.length
    · have hn : nxt l s = byteAt l s.pos := by unfold nxt; rw [if_pos ⟨hb, hlt⟩]
      rw [hn]
      have hge : ¬ (l.length : Int) ≤ s.pos := by omega
      have i1 := HIX.out s.pos hlt
      have hbt := byteAt_lt l s.pos
      clear hn hb
      generalize byteAt l s.pos = c at *
      have hw : IntKind.i64.wrap (c : Int) = c := by rw [IntKind.wrap_i64]; omega
      go_enter Try.func26, Try.ntmps26
      go_wp2_with fail
      go_quiet (fail)
      go_wp2_with fail
      go_quiet (fail)
      go_wp2_with fail
      go_ret
      exact ⟨rfl, by first | exact ((Keep.refl _ _).drewN _).drewN _ | exact (Keep.refl _ _).drewN _⟩
    · have hn : nxt l s = -1 := nxt_fin (by omega)
      rw [hn]
      have hge : (l.length : Int) ≤ s.pos := by omega
      clear hn hb
      go_enter Try.func26, Try.ntmps26
      go_wp2_with fail
      go_quiet (fail)
      go_wp2_with fail
      go_ret
      exact ⟨rfl, (Keep.refl _ _).drewN _⟩

theorem fail_any (b : Nat) (l : List UInt8) (s : PS) (k : Nat) (w : World) (h : Pr w b l s) :
    Calls Try.prog 21 #[.pointer (some ⟨b, 0, none⟩), .int .i64 k] w fun e w' => e = .returned (.tuple #[]) ∧ Pr w' b l (s.fail k) ∧ Keep (fun i => i = b) w w' := by
  have c2 : w.cell? ⟨b, 2, none⟩ = some (.int .i64 (badI s.bad)) := h.cell (o := 2) rfl
  have f2 := h.frozen 2
  have H := Lib.hid h
  clear h
  cases hb : s.bad with
  | some x =>
    rw [hb] at c2
    have c2' : w.cell? ⟨b, 2, none⟩ = some (.int .i64 (x : Int)) := c2
    have hx : ¬ (x : Int) < 0 := by omega
    have he : s.fail k = s := by unfold PS.fail; rw [hb]; rfl
    have HE := Lib.hid he
    clear c2 hb he
    go_enter Try.func21, Try.ntmps21
    go_wp2_with fail
    go_end0
    exact ⟨rfl, by rw [HE.out]; exact H.out, Keep.refl _ _⟩
  | none =>
    rw [hb] at c2
    have c2' : w.cell? ⟨b, 2, none⟩ = some (.int .i64 (-1)) := c2
    have hx : (-1 : Int) < 0 := by omega
    have he : s.fail k = { s with bad := some k } := by unfold PS.fail; rw [if_pos hb]
    have HE := Lib.hid he
    clear c2 hb he
    go_enter Try.func21, Try.ntmps21
    go_wp2_with fail
    go_end0
    refine ⟨rfl, ?_, (Keep.refl (fun i => i = b) w).setCell (p := ⟨b, 2, none⟩) (fun _ => rfl) _⟩
    rw [HE.out]
    have := At.set H.out 2 (.int .i64 (k : Int))
    exact this
end Go.Proofs.Ytgjmomiobffmdaa.P07
