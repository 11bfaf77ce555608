/- The document's Few (layer 6). -/
import Derived.Test.YtcdemlfkoknekaaFind06
namespace Go.Proofs.Ytcdemlfkoknekaa.Ref06
open Go.RowKit Go.Proofs.Ytcdemlfkoknekaa.Base

def small (r : LN) : Bool := decide (r.name.length + r.text.length ≤ 2000)
def fewL (L : List LN) : Bool := L.all small && decide (L.length ≤ 30)
def smallTo (L : List LN) (k : Nat) : Bool := (L.take k).all small
theorem smallTo_0 (L : List LN) : smallTo L 0 = true := by simp [smallTo]
theorem smallTo_end (L : List LN) : smallTo L L.length = L.all small := by simp [smallTo]
theorem smallTo_succ {L : List LN} {k : Nat} {r : LN} (h : L[k]? = some r) : smallTo L (k + 1) = (smallTo L k && small r) := by
  unfold smallTo
  rw [List.take_add_one, h, List.all_append]
  simp
theorem few_no {L : List LN} {k : Nat} {r : LN} (h : L[k]? = some r) (hn : small r = false) : fewL L = false := by
  unfold fewL
  rw [Bool.and_eq_false_iff]
  left
  rw [Bool.eq_false_iff]
  intro e
  have := List.all_eq_true.1 e r (List.mem_of_getElem? h)
  rw [hn] at this
  cases this

set_option maxRecDepth 100000 in
set_option maxHeartbeats 1000000 in
theorem few_any (L : List LN) (a : Option Addr) (cap : Nat) (hl : L.length ≤ 9223372036854775807) (hb : ∀ r ∈ L, r.name.length ≤ 4000000000000000000 ∧ r.text.length ≤ 4000000000000000000) (w : World) (hL : LS w a L) :
    Calls Try.prog 11 #[.slice a L.length cap] w fun e w' => e = .returned (.bool (fewL L)) ∧ Keep (fun _ => False) w w' := by
  have HL := Lib.hid (And.intro (fun (w' : World) (q : Keep (fun _ => False) w w') => hL.keep q (fun _ _ h => h)) hb)
  clear hL hb
  go_enter Try.func11, Try.ntmps11
  go_wp2_with fail
  go_loopg [3] L.length (fun gg i wr => ∃ k : Nat, i = .int .i64 k ∧ k + gg = L.length ∧ smallTo L k = true ∧ Keep (fun _ => False) w wr)
  case atStart => exact ⟨0, rfl, by omega, smallTo_0 L, Keep.refl _ _⟩
  case round =>
    obtain ⟨k, rfl, hk, hE, hq⟩ := hrel
    by_cases hlt : k < L.length
    · have hlt' : (k : Int) < L.length := by omega
      obtain ⟨r, hr⟩ : ∃ r, L[k]? = some r := ⟨L[k], List.getElem?_eq_getElem hlt⟩
      obtain ⟨bl, off, rfl, -, c0, c1, -⟩ := (HL.out.1 _ hq).get hr
      have hbr := HL.out.2 r (List.mem_of_getElem? hr)
      have hsu := smallTo_succ hr
      have hno := fun h => few_no hr h
      have hs0 := size_str r.name
      have hs1 := size_str r.text
      have hsm : small r = decide (r.name.length + r.text.length ≤ 2000) := rfl
      have H := Lib.hid (And.intro hE (And.intro hq (And.intro hsu (And.intro hno hsm))))
      clear hE hq hsu hno hsm hr
      have i0 : (0 : Int) ≤ k := by omega
      have hw : IntKind.i64.wrap ((r.name.length : Int) + r.text.length) = (r.name.length : Int) + r.text.length := by rw [IntKind.wrap_i64]; omega
      go_wp2_with fail
      go_quiet (fail)
      by_cases hbig : r.name.length + r.text.length ≤ 2000
      · have hd : ¬ (2000 : Int) < (r.name.length : Int) + r.text.length := by omega
        have hsmt : small r = true := by rw [H.out.2.2.2.2]; exact decide_eq_true hbig
        have HS := Lib.hid hsmt
        clear hsmt
        go_wp2_with fail
        go_roundg (L.length - (k + 1))
        case measure => omega
        case rel => exact ⟨k + 1, by go_num, by omega, by rw [H.out.2.2.1, H.out.1, HS.out]; rfl, H.out.2.1.drewN _⟩
      · have hd : (2000 : Int) < (r.name.length : Int) + r.text.length := by omega
        have hsmf : small r = false := by rw [H.out.2.2.2.2]; exact decide_eq_false hbig
        have HS := Lib.hid (H.out.2.2.2.1 hsmf)
        clear hsmf
        go_wp2_with fail
        go_ret
        exact ⟨ret_bool (by rw [HS.out]), H.out.2.1.drewN _⟩
    · have hke : k = L.length := by omega
      subst hke
      have hF : fewL L = decide (L.length ≤ 30) := by unfold fewL; rw [← smallTo_end, hE]; rfl
      have H := Lib.hid (And.intro hq hF)
      clear hq hF hE
      generalize L.length = n at *
      go_wp2_with fail
      go_ret
      exact ⟨ret_bool (by rw [H.out.2, Bool.eq_iff_iff]; simp; omega), H.out.1⟩
end Go.Proofs.Ytcdemlfkoknekaa.Ref06
