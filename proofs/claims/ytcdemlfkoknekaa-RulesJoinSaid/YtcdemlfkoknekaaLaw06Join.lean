/- RulesJoin: the walk. -/
import Derived.Test.YtcdemlfkoknekaaLaw06Awake
import Derived.Test.YtcdemlfkoknekaaCopy06
import Derived.Test.YtcdemlfkoknekaaFew06
namespace Go.Proofs.Ytcdemlfkoknekaa.Ref06
open Go.RowKit Go.Proofs.Ytcdemlfkoknekaa.Base

theorem few_is {L : List LN} {v : Bool} (h : fewL L = v) {a : Option Addr} {k cap : Nat} (hk : L.length = k) (hl : k ≤ 9223372036854775807) (hb : ∀ r ∈ L, r.name.length ≤ 4000000000000000000 ∧ r.text.length ≤ 4000000000000000000) (w : World) (hL : LS w a L) :
    Calls Try.prog 11 #[.slice a k cap] w fun e w' => e = .returned (.bool v) ∧ Keep (fun _ => False) w w' := by
  subst hk
  rw [← h]
  exact few_any L a cap hl hb w hL
theorem rjoin_is {L : List LN} {R : Option (List UInt8)} (h : joinR L = R) {a : Option Addr} {k cap : Nat} (hk : L.length = k) (hcap : k ≤ cap) (hl : k ≤ 30) (hb : ∀ r ∈ L, r.name.length ≤ 2000 ∧ r.text.length ≤ 2000) (w : World) (hL : LS w a L) :
    Calls Try.prog 13 #[.slice a k cap] w (IsJoin R w) := by
  subst hk
  rw [← h]
  exact rjoin_any L a cap hcap hl hb w hL

theorem few_parts {L : List LN} (h : fewL L = true) : L.length ≤ 30 ∧ ∀ r ∈ L, r.name.length ≤ 2000 ∧ r.text.length ≤ 2000 := by
  unfold fewL at h
  rw [Bool.and_eq_true] at h
  refine ⟨of_decide_eq_true h.2, fun r hr => ?_⟩
  have := of_decide_eq_true (List.all_eq_true.1 h.1 r hr)
  omega
theorem same_len {A B : List LN} (h : sameNT A B) : A.length = B.length := by
  have := congrArg List.length h
  simpa using this
theorem same_at {A B : List LN} (h : sameNT A B) {k : Nat} {r s : LN} (hr : A[k]? = some r) (hs : B[k]? = some s) : r.name = s.name ∧ r.text = s.text := by
  have := congrArg (fun l => l[k]?) h
  simp only [List.getElem?_map, hr, hs, Option.map_some, Option.some.injEq, Prod.mk.injEq] at this
  exact this

set_option maxRecDepth 100000 in
set_option maxHeartbeats 4000000 in
theorem join_law (L : List LN) (a : Option Addr) (cap : Nat) (ha : (a = none ∧ cap = 0 ∧ L = []) ∨ ∃ x, a = some x) (hlen : L.length * 40 ≤ 140737488355328) (hb : ∀ r ∈ L, r.name.length ≤ 140737488355328 ∧ r.text.length ≤ 140737488355328) (w : World) (hL : LS w a L) :
    Calls Try.prog 4 #[.slice a L.length cap] w fun e w' => e = .returned (.bool true) ∧ Keep (fun _ => False) w w' := by
  have HL := Lib.hid (And.intro (fun (w' : World) (q : Keep (fun _ => False) w w') => hL.keep q (fun _ _ h => h)) (And.intro ha (And.intro hlen hb)))
  have hl63 : L.length ≤ 9223372036854775807 := by omega
  clear hL ha hlen hb
  go_enter Try.func4, Try.ntmps4
  go_wp2_with fail
  go_loopg [3, 5, 16] L.length (fun gg u _ i wr => ∃ k : Nat, i = .int .i64 k ∧ k + gg = L.length ∧ OLn wr u (L.take k) ∧ (∀ g, u.ownBlock = some g → w.heap.size ≤ g) ∧ Keep (fun _ => False) w wr)
  case atStart => exact ⟨0, rfl, by omega, OLn.nil _, fun g hg => (by cases hg), Keep.refl _ _⟩
  case round =>
    obtain ⟨k, rfl, hk, hu, hg, hq⟩ := hrel
    by_cases hlt : k < L.length
    · have hlt' : (k : Int) < L.length := by omega
      obtain ⟨r, hr⟩ : ∃ r, L[k]? = some r := ⟨L[k], List.getElem?_eq_getElem hlt⟩
      obtain ⟨bl, off, rfl, -, c0, c1, c2⟩ := (HL.out.1 _ hq).get hr
      have qa := (Keep.refl (fun _ => False) wr).alloc (.cells (lcells r) 31)
      have hu1 := hu.keep qa (fun _ _ h => h)
      have htk : L.take (k + 1) = L.take k ++ [r] := by rw [List.take_add_one, hr]; rfl
      have htl : (L.take k).length = k := by rw [List.length_take]; omega
      obtain ⟨v', w2, hrun, hv2, q2, hb2⟩ := hu1.push r (by rw [htl]; have := HL.out.2.2.1; omega) 27
      have hq2 : Keep (fun _ => False) w w2 := (hq.trans qa).next q2 (fun i hi hl => by have := hg i hi; omega)
      have hg2 : ∀ g, v'.ownBlock = some g → w.heap.size ≤ g := fun g h => by
        rcases hb2 g h with h | h
        · exact hg g h
        · have := hq.size
          have := qa.size
          omega
      rw [← htk] at hv2
      rw [show (wr.alloc (.cells (lcells r) 31)).heap.size = wr.heap.size + 1 from by simp] at hrun
      have H2 := Lib.hid (And.intro hv2 (And.intro hg2 hq2))
      clear hu hu1 hq hg hv2 hg2 hq2 q2 hb2 qa hr htk htl
      go_wp2_with (at_builtin; refine Lib.wpList_append_run _ rfl _ _ _ _ rfl _ _ rfl rfl _ _ hrun ?_)
      clear hrun
      go_wp2_with fail
      go_roundg (L.length - (k + 1))
      case measure => omega
      case rel => exact ⟨k + 1, by go_num, by omega, H2.out.1, H2.out.2.1, H2.out.2.2⟩
    · have hke : k = L.length := by omega
      subst hke
      rw [List.take_length] at hu
      obtain ⟨b, bcap, rfl, hbc, hlb, -⟩ := hu.form2
      have H0 := Lib.hid (And.intro hlb (And.intro hbc hq))
      clear hu hg hq hlb hbc
      go_wp2_with fail
      refine (awake_any wr).mono ?_
      rintro e w1 ⟨rfl, q1⟩
      obtain ⟨fw, hfw⟩ : ∃ fw, fewL L = fw := ⟨_, rfl⟩
      have hfc := few_is hfw (cap := bcap) rfl (by have := HL.out.2.2.1; omega) (fun r hr => by have := HL.out.2.2.2 r hr; omega) w1 (H0.out.1.keep q1 (fun _ _ h => h))
      have H1 := Lib.hid (And.intro hfc (And.intro (H0.out.2.2.trans q1) (And.intro hfw (H0.out.1.keep q1 (fun _ _ h => h)))))
      clear hfc q1 hfw
      go_wp2_with fail
      refine H1.out.1.mono ?_
      rintro e w2 ⟨rfl, q2⟩
      have H2 := Lib.hid (And.intro (H1.out.2.1.trans q2) (H1.out.2.2.2.keep q2 (fun _ _ h => h)))
      clear q2
      cases fw
      · go_wp2_with fail
        refine (awake_any w2).mono ?_
        rintro e w3 ⟨rfl, q3⟩
        have H3 := Lib.hid (H2.out.1.trans q3)
        clear q3
        go_wp2_with fail
        go_ret
        exact ⟨rfl, H3.out⟩
      · obtain ⟨h30, hsm⟩ := few_parts H1.out.2.2.1
        obtain ⟨v3, w3, hrun, hv3, q3⟩ := copy_any w2 a cap L (HL.out.1 _ H2.out.1) (by omega) HL.out.2.1 23
        obtain ⟨R, hR⟩ : ∃ R, joinR L = R := ⟨_, rfl⟩
        obtain ⟨ca, ccap, rfl, hcc, hlc, -⟩ := hv3.form2
        have hjc := join_is hR (cap := ccap) rfl hcc h30 hsm w3 hlc
        have hrj := fun w h => rjoin_is hR (a := b) (cap := bcap) rfl H0.out.2.1 h30 hsm w h
        have H3 := Lib.hid (And.intro hjc (And.intro hrj (And.intro (H2.out.1.trans q3) (And.intro (H2.out.2.keep q3 (fun _ _ h => h)) hR))))
        clear hjc hrj q3 hR hv3 hlc hcc hsm
        go_wp2_with (at_builtin; refine Lib.wpList_append_run _ rfl _ _ _ _ rfl _ _ rfl rfl _ _ hrun ?_)
        clear hrun
        go_wp2_with fail
        refine H3.out.1.mono ?_
        rintro e w4 ⟨q4, rfl⟩
        have H4 := Lib.hid (And.intro (H3.out.2.2.1.trans q4) (H3.out.2.2.2.1.keep q4 (fun _ _ h => h)))
        clear q4
        cases R with
        | none =>
          go_wp2_with fail
          refine (H3.out.2.1 w4 H4.out.2).mono ?_
          rintro e w5 ⟨q5, rfl⟩
          have H5 := Lib.hid (H4.out.1.trans q5)
          clear q5
          go_wp2_with fail
          go_ret
          exact ⟨rfl, H5.out⟩
        | some s =>
          obtain ⟨out, hso, hsame⟩ := split_join H3.out.2.2.2.2
          have hs1000 : s.length ≤ 1000 := by
            have := hso
            unfold splitR at this
            split at this
            · cases this
            · omega
          have hol := same_len hsame
          have hsc := fun w => split_is hso (by omega) w
          obtain ⟨B, hB⟩ : ∃ B : ByteArray, (⟨s.toArray⟩ : ByteArray) = B := ⟨_, rfl⟩
          have hstr : str s = .string B := by unfold str; rw [hB]
          have hrj := H3.out.2.1
          unfold IsJoin at hrj
          simp only [hstr] at hrj
          rw [hstr] at hsc
          simp only [hstr]
          have HS := Lib.hid (And.intro hsc (And.intro hsame (And.intro hol hrj)))
          clear hsc hso hsame hol hrj hstr hB hs1000
          go_wp2_with fail
          refine (HS.out.2.2.2 w4 H4.out.2).mono ?_
          rintro e w5 ⟨q5, rfl⟩
          have H5 := Lib.hid (H4.out.1.trans q5)
          clear q5
          go_wp2_with fail
          refine (HS.out.1 w5).mono ?_
          rintro e w6 ⟨v6, n6, s6, rfl, q6, hc6⟩
          rcases hc6 with ⟨b6, hb6, -⟩ | ⟨out6, ho6, hv6, rfl, rfl⟩
          · cases hb6
          injection ho6 with ho6
          subst ho6
          obtain ⟨oa, ocap, rfl, -, hlo, -⟩ := hv6.form2
          rw [HS.out.2.2.1]
          have H6 := Lib.hid (And.intro (H5.out.trans q6) hlo)
          clear q6 hlo hv6
          go_wp2_with fail
          go_loopg [91] L.length (fun gg i wr => ∃ k : Nat, i = .int .i64 k ∧ k + gg = L.length ∧ Keep (fun _ => False) w6 wr)
          case atStart => exact ⟨0, rfl, by omega, Keep.refl _ _⟩
          case round =>
            obtain ⟨j, rfl, hj, hq⟩ := hrel
            by_cases hlt2 : j < L.length
            · have hlt2' : (j : Int) < L.length := by omega
              obtain ⟨r, hr⟩ : ∃ r, L[j]? = some r := ⟨L[j], List.getElem?_eq_getElem hlt2⟩
              obtain ⟨r2, hr2⟩ : ∃ r, out[j]? = some r := ⟨out[j]'(by rw [HS.out.2.2.1]; exact hlt2), List.getElem?_eq_getElem _⟩
              obtain ⟨en, et⟩ := same_at HS.out.2.1 hr2 hr
              obtain ⟨bl1, off1, rfl, -, c0, c1, -⟩ := (H6.out.2.keep hq (fun _ _ h => h)).get hr2
              obtain ⟨bl2, off2, rfl, -, d0, d1, -⟩ := (HL.out.1 _ (H6.out.1.trans hq)).get hr
              rw [en] at c0
              rw [et] at c1
              have HQ2 := Lib.hid hq
              have i1 : (0 : Int) ≤ j := by omega
              clear hq hr hr2 en et
              go_wp2_with fail
              go_quiet (fail)
              go_wp2_with fail
              go_roundg (L.length - (j + 1))
              case measure => omega
              case rel => exact ⟨j + 1, by go_num, by omega, HQ2.out.drewN _⟩
            · have hke : j = L.length := by omega
              have HQ2 := Lib.hid hq
              clear hq
              go_wp2_with fail
              go_ret
              exact ⟨rfl, H6.out.1.trans HQ2.out⟩
end Go.Proofs.Ytcdemlfkoknekaa.Ref06
