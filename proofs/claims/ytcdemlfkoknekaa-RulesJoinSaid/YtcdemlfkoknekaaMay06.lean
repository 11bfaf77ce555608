/- Package rules: inName, mayFollow (its search by slices.ContainsFunc over a function of its own). -/
import Derived.Test.YtcdemlfkoknekaaFind06
namespace Go.Proofs.Ytcdemlfkoknekaa.Ref06
open Go.RowKit Go.Proofs.Ytcdemlfkoknekaa.Base

theorem inName_any (b : Nat) (hb : b < 256) (w : World) : Calls Try.prog 19 #[.int .u8 b] w fun e w' => e = .returned (.bool (letB b)) ∧ w = w' := by
  go_enter Try.func19, Try.ntmps19
  go_wp2
  all_goals
    go_ret
    exact ⟨ret_bool (by unfold letB; rw [Bool.eq_iff_iff]; simp; omega), rfl⟩
theorem inName_is {b : Nat} {v : Bool} (hb : b < 256) (h : letB b = v) (w : World) : Calls Try.prog 19 #[.int .u8 b] w fun e w' => e = .returned (.bool v) ∧ w = w' := by
  rw [← h]
  exact inName_any b hb w

/-- The function that is handed to ContainsFunc. -/
theorem pred_any (r : LN) (n : List UInt8) (pb : Nat) (w : World) (hp : At w pb 9 #[str n]) :
    Calls Try.prog 30 #[lineV r.name r.text r.place, .pointer (some ⟨pb, 0, none⟩)] w fun e w' => e = .returned (.bool (decide (r.name = n))) ∧ Keep (fun _ => False) w w' := by
  have c0 := (hp.alloc (.cells #[str r.name, str r.text, .int .i64 r.place] 31)).cell (o := 0) rfl
  have q := (Keep.refl (fun _ => False) w).alloc (.cells #[str r.name, str r.text, .int .i64 r.place] 31)
  have hlt := hp.lt
  have hne : pb ≠ w.heap.size := by omega
  have H := Lib.hid q
  clear q hp
  by_cases hn : r.name = n
  · subst hn
    go_enter Try.func30, Try.ntmps30
    go_wp2_with fail
    go_ret
    exact ⟨ret_bool (by simp), H.out⟩
  · have hne2 : (r.name == n) = false := by simpa using hn
    have HN := Lib.hid hn
    clear hn
    go_enter Try.func30, Try.ntmps30
    go_wp2_with fail
    go_ret
    exact ⟨ret_bool (by simp [HN.out]), H.out⟩

set_option maxRecDepth 100000 in
set_option maxHeartbeats 1000000 in
theorem idx_any (L : List LN) (a : Option Addr) (cap : Nat) (n : List UInt8) (pb : Nat) (hl : L.length ≤ 1000000) (w : World) (hL : LS w a L) (hp : At w pb 9 #[str n]) :
    Calls Try.prog 34 #[.slice a L.length cap, .func (.func 30) #[] #[.pointer (some ⟨pb, 0, none⟩)]] w fun e w' => ∃ i : Int, e = .returned (.int .i64 i) ∧ (findL L n = decide (0 ≤ i)) ∧ Keep (fun _ => False) w w' := by
  have HL := Lib.hid (And.intro (fun (w' : World) (q : Keep (fun _ => False) w w') => hL.keep q (fun _ _ h => h)) (fun (w' : World) (q : Keep (fun _ => False) w w') => hp.keep q (fun h => h)))
  clear hL hp
  go_enter Try.func34, Try.ntmps34
  go_wp2_with fail
  go_loopg [5, 8] L.length (fun gg _ i wr => ∃ k : Nat, i = .int .i64 k ∧ k + gg = L.length ∧ findTo L n k = false ∧ Keep (fun _ => False) w wr)
  case atStart => exact ⟨0, rfl, by omega, findTo_0 L n, Keep.refl _ _⟩
  case round =>
    obtain ⟨k, rfl, hk, hE, hq⟩ := hrel
    by_cases hlt : k < L.length
    · have hlt' : (k : Int) < L.length := by omega
      obtain ⟨r, hr⟩ : ∃ r, L[k]? = some r := ⟨L[k], List.getElem?_eq_getElem hlt⟩
      obtain ⟨bl, off, rfl, -, c0, c1, c2⟩ := (HL.out.1 _ hq).get hr
      have hsu := findTo_succ (n := n) hr
      have hy := fun h => find_yes (n := n) hr h
      have H := Lib.hid (And.intro hE (And.intro hq (And.intro hsu (And.intro hy (pred_any r n pb wr (HL.out.2 _ hq))))))
      clear hE hq hsu hy hr
      obtain ⟨v, hv⟩ : ∃ v, decide (r.name = n) = v := ⟨_, rfl⟩
      have HV := Lib.hid hv
      clear hv
      go_wp2_with fail
      refine H.out.2.2.2.2.mono ?_
      rintro e w' ⟨rfl, q'⟩
      rw [HV.out]
      have Q := Lib.hid q'
      clear q'
      cases v
      · go_wp2_with fail
        go_roundg (L.length - (k + 1))
        case measure => omega
        case rel => exact ⟨k + 1, by go_num, by omega, by rw [H.out.2.2.1, H.out.1, HV.out]; rfl, H.out.2.1.trans Q.out⟩
      · go_wp2_with fail
        go_ret
        exact ⟨_, rfl, by rw [H.out.2.2.2.1 (of_decide_eq_true HV.out)]; simp, H.out.2.1.trans Q.out⟩
    · have hke : k = L.length := by omega
      subst hke
      have hf : findL L n = false := by rw [← findTo_end, hE]
      have H := Lib.hid (And.intro hf hq)
      clear hf hq hE
      go_wp2_with fail
      go_ret
      exact ⟨_, rfl, by rw [H.out.1]; rfl, H.out.2⟩

theorem contains_any (L : List LN) (a : Option Addr) (cap : Nat) (n : List UInt8) (pb : Nat) (hl : L.length ≤ 1000000) (w : World) (hL : LS w a L) (hp : At w pb 9 #[str n]) :
    Calls Try.prog 29 #[.slice a L.length cap, .func (.func 30) #[] #[.pointer (some ⟨pb, 0, none⟩)]] w fun e w' => e = .returned (.bool (findL L n)) ∧ Keep (fun _ => False) w w' := by
  have H := Lib.hid (idx_any L a cap n pb hl w hL hp)
  clear hL hp
  go_enter Try.func29, Try.ntmps29
  go_wp2_with fail
  refine H.out.mono ?_
  rintro e w' ⟨i, rfl, hi, q⟩
  have HI := Lib.hid (And.intro hi q)
  clear hi q
  go_wp2_with fail
  go_ret
  exact ⟨ret_bool (by rw [HI.out.1]), HI.out.2⟩

/-- May a rule of that name stand behind these ones? -/
def mayB (L : List LN) (n : List UInt8) : Bool := decide (L.length < 8) && !findL L n

set_option maxRecDepth 100000 in
set_option maxHeartbeats 1000000 in
theorem may_any (L : List LN) (a : Option Addr) (cap : Nat) (n : List UInt8) (hl : L.length ≤ 1000000) (w : World) (hL : LS w a L) :
    Calls Try.prog 17 #[.slice a L.length cap, str n] w fun e w' => e = .returned (.bool (mayB L n)) ∧ Keep (fun _ => False) w w' := by
  have q0 := (Keep.refl (fun _ => False) w).alloc (.cells #[str n] 9)
  have hcall := contains_any L a cap n w.heap.size hl (w.alloc (.cells #[str n] 9)) (hL.keep q0 (fun _ _ h => h)) (At.new w _ _)
  have H := Lib.hid (And.intro q0 hcall)
  clear q0 hcall hL
  obtain ⟨v, hv⟩ : ∃ v, findL L n = v := ⟨_, rfl⟩
  by_cases h8 : L.length < 8
  · have h8' : (L.length : Int) < 8 := by omega
    have hm : mayB L n = !v := by unfold mayB; rw [decide_eq_true h8, hv]; rfl
    have HM := Lib.hid (And.intro hm hv)
    clear hm hv
    go_enter Try.func17, Try.ntmps17
    go_wp2_with fail
    refine H.out.2.mono ?_
    rintro e w' ⟨rfl, q⟩
    rw [HM.out.2]
    have Q := Lib.hid q
    clear q
    go_wp2_with fail
    go_ret
    exact ⟨ret_bool HM.out.1.symm, H.out.1.trans Q.out⟩
  · have h8' : ¬ (L.length : Int) < 8 := by omega
    have hm : mayB L n = false := by unfold mayB; rw [decide_eq_false h8]; rfl
    have HM := Lib.hid hm
    clear hm hv
    go_enter Try.func17, Try.ntmps17
    go_wp2_with fail
    go_ret
    exact ⟨ret_bool HM.out.symm, H.out.1⟩
end Go.Proofs.Ytcdemlfkoknekaa.Ref06
