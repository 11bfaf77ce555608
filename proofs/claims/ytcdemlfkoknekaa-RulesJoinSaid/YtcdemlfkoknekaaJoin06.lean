/- The document's Join (layer 6). -/
import Derived.Test.YtcdemlfkoknekaaFind06
namespace Go.Proofs.Ytcdemlfkoknekaa.Ref06
open Go.RowKit Go.Proofs.Ytcdemlfkoknekaa.Base

theorem str_append (a b : List UInt8) : (ByteArray.mk a.toArray ++ ByteArray.mk b.toArray) = ⟨(a ++ b).toArray⟩ := by
  apply ByteArray.ext
  simp

def textOk (r : LN) : Bool := decide (endN r.text 0 = r.text.length)
def okAt (L : List LN) (k : Nat) (r : LN) : Bool := nameL r.name && !findL (L.take k) r.name && textOk r
def okTo (L : List LN) (k : Nat) : Bool := (List.range k).all fun i => match L[i]? with | some r => okAt L i r | none => true
def fileTo (L : List LN) (k : Nat) : List UInt8 := (L.take k).flatMap fun r => r.name ++ [58] ++ r.text ++ [10]
def joinR (L : List LN) : Option (List UInt8) := if okTo L L.length = true ∧ 1 ≤ L.length ∧ L.length ≤ 8 ∧ (fileTo L L.length).length ≤ 1000 then some (fileTo L L.length) else none

theorem okTo_succ {L : List LN} {k : Nat} {r : LN} (h : L[k]? = some r) : okTo L (k + 1) = (okTo L k && okAt L k r) := by
  unfold okTo
  rw [List.range_succ, List.all_append]
  simp [h]
theorem okTo_mono {L : List LN} {k n : Nat} (h : k ≤ n) (hn : okTo L n = true) : okTo L k = true := by
  unfold okTo at *
  rw [List.all_eq_true] at *
  intro i hi
  exact hn i (List.mem_range.2 (Nat.lt_of_lt_of_le (List.mem_range.1 hi) h))
theorem join_no {L : List LN} {k : Nat} {r : LN} (h : L[k]? = some r) (hn : okAt L k r = false) : joinR L = none := by
  unfold joinR
  rw [if_neg]
  rintro ⟨e, -⟩
  have hk : k < L.length := (List.getElem?_eq_some_iff.1 h).1
  have := okTo_mono (L := L) (k := k + 1) hk e
  rw [okTo_succ h, hn, Bool.and_false] at this
  cases this
theorem fileTo_succ {L : List LN} {k : Nat} {r : LN} (h : L[k]? = some r) : fileTo L (k + 1) = fileTo L k ++ (r.name ++ [58] ++ r.text ++ [10]) := by
  unfold fileTo
  rw [List.take_add_one, h, List.flatMap_append]
  simp

theorem fileTo_len {L : List LN} : ∀ {k}, k ≤ L.length → (∀ r ∈ L, r.name.length ≤ 2000 ∧ r.text.length ≤ 2000) → (fileTo L k).length ≤ k * 4002
  | 0, _, _ => by simp [fileTo]
  | k + 1, h, hb => by
    have hr : L[k]? = some L[k] := List.getElem?_eq_getElem h
    have := fileTo_len (k := k) (by omega) hb
    have := hb L[k] (List.getElem_mem h)
    rw [fileTo_succ hr]
    simp
    omega

theorem name_is {l : List UInt8} {v : Bool} (h : nameL l = v) (hl : l.length ≤ 1000000000) (w : World) : Calls Try.prog 14 #[str l] w fun e w' => e = .returned (.bool v) ∧ w = w' := by
  rw [← h]
  exact name_any l hl w
theorem find_is {M : List LN} {n : List UInt8} {k cap : Nat} {a : Option Addr} {v : Bool} (hk : M.length = k) (h : findL M n = v) (hl : k ≤ 1000000) (w : World) (hL : LS w a M) : Calls Try.prog 22 #[.slice a k cap, str n] w fun e w' => e = .returned (.bool v) ∧ w = w' := by
  subst hk
  rw [← h]
  exact find_any M a cap n hl w hL
theorem LS.take {w : World} {a : Option Addr} {L : List LN} (h : LS w a L) (k : Nat) : LS w a (L.take k) := by
  rcases h with rfl | ⟨bl, off, rfl, hb, hc⟩
  · exact .inl (by simp)
  · refine .inr ⟨bl, off, rfl, hb, fun i r hr => hc i r ?_⟩
    rw [List.getElem?_take] at hr
    split at hr
    · exact hr
    · cases hr

/-- What Join answers. -/
def IsJoin (R : Option (List UInt8)) (w : World) (e : Ending) (w' : World) : Prop := Keep (fun _ => False) w w' ∧ e = .returned (match R with | some s => .tuple #[str s, .bool true] | none => .tuple #[str [], .bool false])

set_option maxRecDepth 100000 in
set_option maxHeartbeats 2000000 in
theorem rjoin_any (L : List LN) (a : Option Addr) (cap : Nat) (hcap : L.length ≤ cap) (hl : L.length ≤ 30) (hb : ∀ r ∈ L, r.name.length ≤ 2000 ∧ r.text.length ≤ 2000) (w : World) (hL : LS w a L) :
    Calls Try.prog 13 #[.slice a L.length cap] w (IsJoin (joinR L) w) := by
  have HL := Lib.hid (And.intro (fun (w' : World) (q : Keep (fun _ => False) w w') => hL.keep q (fun _ _ h => h)) hb)
  clear hL hb
  obtain ⟨R, hR⟩ : ∃ R, joinR L = R := ⟨_, rfl⟩
  rw [hR]
  have HR := Lib.hid hR
  clear hR
  go_enter Try.func13, Try.ntmps13
  go_wp2_with fail
  go_loopg [4, 5] L.length (fun gg u i wr => ∃ k : Nat, u = str (fileTo L k) ∧ i = .int .i64 k ∧ k + gg = L.length ∧ okTo L k = true ∧ Keep (fun _ => False) w wr)
  case atStart => exact ⟨0, rfl, rfl, by omega, rfl, Keep.refl _ _⟩
  case round =>
    obtain ⟨k, rfl, rfl, hk, hE, hq⟩ := hrel
    by_cases hlt : k < L.length
    · have hlt' : (k : Int) < L.length := by omega
      obtain ⟨r, hr⟩ : ∃ r, L[k]? = some r := ⟨L[k], List.getElem?_eq_getElem hlt⟩
      have hls := HL.out.1 _ hq
      obtain ⟨bl, off, rfl, -, c0, c1, -⟩ := hls.get hr
      have hbr := HL.out.2 r (List.mem_of_getElem? hr)
      have hfs := fileTo_succ hr
      have hos := okTo_succ hr
      have hno := fun h => join_no hr h
      have hok : okAt L k r = (nameL r.name && !findL (L.take k) r.name && textOk r) := rfl
      have hlt2 : (L.take k).length = k := by simp; omega
      obtain ⟨x, hx⟩ : ∃ x, nameL r.name = x := ⟨_, rfl⟩
      obtain ⟨y, hy⟩ : ∃ y, findL (L.take k) r.name = y := ⟨_, rfl⟩
      rw [hx, hy] at hok
      have H := Lib.hid (And.intro hE (And.intro hq (And.intro hfs (And.intro hos (And.intro hno (And.intro hok (And.intro hx (And.intro hy (And.intro hls hlt2)))))))))
      clear hE hq hfs hos hno hok hx hy hls hlt2 hr
      have i0 : (0 : Int) ≤ k := by omega
      have i1 : (k : Int) ≤ cap := by omega
      have i2 : k ≤ cap := by omega
      cases x
      · have hRn : R = none := by rw [← HR.out]; exact H.out.2.2.2.2.1 (by rw [H.out.2.2.2.2.2.1]; rfl)
        have HN := Lib.hid hRn
        clear hRn
        go_wp2_with fail
        go_quiet ((go_at_call 14; exact quiet_same (name_is H.out.2.2.2.2.2.2.1 (by omega) _)))
        go_wp2_with fail
        exact bodyPost_ret (v := .tuple #[str [], .bool false]) (by simp [results, Try.results13, go_sem]) rfl ⟨H.out.2.1.drewN _, by rw [HN.out]⟩
      · cases y
        · obtain ⟨E, hEe⟩ : ∃ E, endN r.text 0 = E := ⟨_, rfl⟩
          have hend := fun w => end_any r.text (by omega) 0 (Nat.zero_le _) w
          rw [hEe] at hend
          have hEl : E ≤ r.text.length := by rw [← hEe]; exact endN_le (Nat.zero_le _)
          have htx : textOk r = decide (E = r.text.length) := by unfold textOk; rw [hEe]
          have HEn := Lib.hid hend
          have HTx := Lib.hid htx
          clear hend htx hEe
          have hs1 := size_str r.text
          by_cases hbad : E < r.text.length
          · have hRn : R = none := by
              rw [← HR.out]
              refine H.out.2.2.2.2.1 ?_
              rw [H.out.2.2.2.2.2.1, HTx.out, decide_eq_false (by omega)]
              rfl
            have HN := Lib.hid hRn
            clear hRn
            have hbad' : (E : Int) < r.text.length := by omega
            go_wp2_with fail
            go_quiet (first | (go_at_call 14; exact quiet_same (name_is H.out.2.2.2.2.2.2.1 (by omega) _)) | (go_at_call 22; exact quiet_same (find_is H.out.2.2.2.2.2.2.2.2.2 H.out.2.2.2.2.2.2.2.1 (by omega) _ ((H.out.2.2.2.2.2.2.2.2.1.take k).keep ((Keep.refl (fun _ => False) _).drewN _) (fun _ _ h => h)))) | (go_at_call 20; exact quiet_same (HEn.out _)))
            go_wp2_with fail
            exact bodyPost_ret (v := .tuple #[str [], .bool false]) (by simp [results, Try.results13, go_sem]) rfl ⟨H.out.2.1.drewN _, by rw [HN.out]⟩
          · have hgood : okTo L (k + 1) = true := by
              rw [H.out.2.2.2.1, H.out.1, H.out.2.2.2.2.2.1, HTx.out, decide_eq_true (by omega)]
              rfl
            have HG := Lib.hid hgood
            clear hgood
            have hbad' : ¬ (E : Int) < r.text.length := by omega
            have z0 := size_str r.name
            have z1 := size_str (r.name ++ [58])
            have z2 := size_str (r.name ++ [58] ++ r.text)
            have z3 := size_str (r.name ++ [58] ++ r.text ++ [10])
            have z4 := size_str (fileTo L k)
            have y1 : (r.name ++ [58]).length = r.name.length + 1 := by simp
            have y2 : (r.name ++ [58] ++ r.text).length = r.name.length + 1 + r.text.length := by simp; omega
            have y3 : (r.name ++ [58] ++ r.text ++ [10]).length = r.name.length + 1 + r.text.length + 1 := by simp; omega
            have y4 := fileTo_len (k := k) (by omega) HL.out.2
            rw [y1] at z1
            rw [y2] at z2
            rw [y3] at z3
            clear y1 y2 y3
            have t1 := str_append r.name [58]
            have t2 := str_append (r.name ++ [58]) r.text
            have t3 := str_append (r.name ++ [58] ++ r.text) [10]
            have t4 := str_append (fileTo L k) (r.name ++ [58] ++ r.text ++ [10])
            obtain ⟨b1, e1⟩ : ∃ b : ByteArray, (⟨(r.name ++ [58]).toArray⟩ : ByteArray) = b := ⟨_, rfl⟩
            obtain ⟨b2, e2⟩ : ∃ b : ByteArray, (⟨(r.name ++ [58] ++ r.text).toArray⟩ : ByteArray) = b := ⟨_, rfl⟩
            obtain ⟨b3, e3⟩ : ∃ b : ByteArray, (⟨(r.name ++ [58] ++ r.text ++ [10]).toArray⟩ : ByteArray) = b := ⟨_, rfl⟩
            obtain ⟨b4, e4⟩ : ∃ b : ByteArray, (⟨(fileTo L k ++ (r.name ++ [58] ++ r.text ++ [10])).toArray⟩ : ByteArray) = b := ⟨_, rfl⟩
            rw [e1] at t1 t2 z1
            rw [e2] at t2 t3 z2
            rw [e3] at t3 t4 z3
            rw [e4] at t4
            have E4 := Lib.hid e4
            clear e1 e2 e3 e4
            go_wp2_with fail
            go_quiet (first | (go_at_call 14; exact quiet_same (name_is H.out.2.2.2.2.2.2.1 (by omega) _)) | (go_at_call 22; exact quiet_same (find_is H.out.2.2.2.2.2.2.2.2.2 H.out.2.2.2.2.2.2.2.1 (by omega) _ ((H.out.2.2.2.2.2.2.2.2.1.take k).keep ((Keep.refl (fun _ => False) _).drewN _) (fun _ _ h => h)))) | (go_at_call 20; exact quiet_same (HEn.out _)))
            go_wp2_with fail
            go_quiet (fail)
            go_wp2_with fail
            go_roundg (L.length - (k + 1))
            case measure => omega
            case rel => exact ⟨k + 1, by rw [H.out.2.2.1]; unfold str; rw [E4.out], by go_num, by omega, HG.out, by first | exact (H.out.2.1.drewN _).drewN _ | exact H.out.2.1.drewN _⟩
        · have hRn : R = none := by rw [← HR.out]; exact H.out.2.2.2.2.1 (by rw [H.out.2.2.2.2.2.1]; rfl)
          have HN := Lib.hid hRn
          clear hRn
          go_wp2_with fail
          go_quiet (first | (go_at_call 14; exact quiet_same (name_is H.out.2.2.2.2.2.2.1 (by omega) _)) | (go_at_call 22; exact quiet_same (find_is H.out.2.2.2.2.2.2.2.2.2 H.out.2.2.2.2.2.2.2.1 (by omega) _ ((H.out.2.2.2.2.2.2.2.2.1.take k).keep ((Keep.refl (fun _ => False) _).drewN _) (fun _ _ h => h)))))
          go_wp2_with fail
          exact bodyPost_ret (v := .tuple #[str [], .bool false]) (by simp [results, Try.results13, go_sem]) rfl ⟨H.out.2.1.drewN _, by rw [HN.out]⟩
    · have hke : k = L.length := by omega
      subst hke
      have hs := size_str (fileTo L L.length)
      have hj : joinR L = if 1 ≤ L.length ∧ L.length ≤ 8 ∧ (fileTo L L.length).length ≤ 1000 then some (fileTo L L.length) else none := by
        unfold joinR
        simp only [hE, true_and]
      rw [HR.out] at hj
      have H := Lib.hid (And.intro hq hj)
      clear hq hj hE
      generalize fileTo L L.length = s at *
      by_cases h1 : 1 ≤ L.length
      · by_cases h8 : L.length ≤ 8
        · by_cases h1k : s.length ≤ 1000
          · have e1 : ¬ (L.length : Int) < 1 := by omega
            have e2 : ¬ (8 : Int) < L.length := by omega
            have e3 : ¬ (1000 : Int) < s.length := by omega
            go_wp2_with fail
            exact bodyPost_ret (v := .tuple #[str s, .bool true]) (by simp [results, Try.results13, go_sem]) rfl ⟨H.out.1, by rw [H.out.2, if_pos ⟨h1, h8, h1k⟩]⟩
          · have e1 : ¬ (L.length : Int) < 1 := by omega
            have e2 : ¬ (8 : Int) < L.length := by omega
            have e3 : (1000 : Int) < s.length := by omega
            go_wp2_with fail
            exact bodyPost_ret (v := .tuple #[str [], .bool false]) (by simp [results, Try.results13, go_sem]) rfl ⟨H.out.1, by rw [H.out.2, if_neg (fun h => h1k h.2.2)]⟩
        · have e1 : ¬ (L.length : Int) < 1 := by omega
          have e2 : (8 : Int) < L.length := by omega
          go_wp2_with fail
          exact bodyPost_ret (v := .tuple #[str [], .bool false]) (by simp [results, Try.results13, go_sem]) rfl ⟨H.out.1, by rw [H.out.2, if_neg (fun h => h8 h.2.1)]⟩
      · have e1 : (L.length : Int) < 1 := by omega
        go_wp2_with fail
        exact bodyPost_ret (v := .tuple #[str [], .bool false]) (by simp [results, Try.results13, go_sem]) rfl ⟨H.out.1, by rw [H.out.2, if_neg (fun h => h1 h.1)]⟩
end Go.Proofs.Ytcdemlfkoknekaa.Ref06
