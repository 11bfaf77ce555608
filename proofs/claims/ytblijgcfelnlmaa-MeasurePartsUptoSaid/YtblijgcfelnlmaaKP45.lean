/- The code's withSets and Sets (layer 9). -/
import Derived.Test.YtblijgcfelnlmaaKP16
import Derived.Test.YtblijgcfelnlmaaKP27
import Derived.Lib.AppendZeros
import Derived.Maps.AppendAt
namespace Go.Proofs.Ytblijgcfelnlmaa.P09
open Go.RowKit Go.Proofs.Ytblijgcfelnlmaa.Base Go.Proofs.Ytblijgcfelnlmaa.Bytes Go.Proofs.Ytblijgcfelnlmaa.P07 Go.Proofs.Ytblijgcfelnlmaa.P08 Go.Proofs.Ytblijgcfelnlmaa.OL
open Go.Proofs.Ytblijgcfelnlmaa.Sets (ST)

mutual
/-- Its classes, from the left to the right. -/
def setsT : T → List ST
  | .nd k s _ _ l => if k = 2 then [s] else setsL l
def setsL : List T → List ST
  | [] => []
  | t :: l => setsT t ++ setsL l
end
theorem setsT_eq (t : T) : setsT t = if t.kind = 2 then [t.set] else setsL t.subs := by
  cases t
  rw [setsT]
  rfl
theorem setsL_append : ∀ (L : List T) (t : T), setsL (L ++ [t]) = setsL L ++ setsT t
  | [], t => by rw [List.nil_append, setsL, setsL, setsL]; simp
  | s :: L, t => by rw [List.cons_append, setsL, setsL, setsL_append L, List.append_assoc]
theorem setsL_take {L : List T} {i : Nat} {s : T} (h : L[i]? = some s) : setsL (L.take (i + 1)) = setsL (L.take i) ++ setsT s := by
  rw [List.take_add_one, h]
  exact setsL_append _ s
mutual
theorem setsT_len : ∀ t : T, (setsT t).length ≤ cnt t
  | .nd k s mn mx l => by
    rw [setsT, cnt]
    have := setsL_len l
    split
    · simp
    · omega
theorem setsL_len : ∀ l : List T, (setsL l).length ≤ cntL l
  | [] => by rw [setsL, cntL]; exact Nat.le_refl _
  | t :: l => by
    rw [setsL, cntL, List.length_append]
    have := setsT_len t
    have := setsL_len l
    omega
end

/-- A list of the program's own, that was not there in the world b. -/
structure Fr (b w : World) (v : Value) (L : List ST) : Prop where
  ol : OL w v L
  q : Keep (fun _ => False) b w
  far : ∀ g, v.ownBlock = some g → b.heap.size ≤ g
theorem Fr.keep {b w w' : World} {v : Value} {L : List ST} (h : Fr b w v L) (k : Keep (fun _ => False) w w') : Fr b w' v L := ⟨h.ol.keep k (fun _ _ h => h), h.q.trans k, h.far⟩
theorem Fr.nil (b : World) : Fr b b (.slice none 0 0) [] := ⟨OL.nil b, Keep.refl _ _, fun g hg => by cases hg⟩
def SetsOk (t : T) : Prop := ∀ (b : World) (bl o : Nat) (a : Option Addr) (c : Nat), NodeP b bl o t a c → Lie b (fun _ => True) a t.subs → ∀ (w : World) (v : Value) (L : List ST), Fr b w v L → L.length + cnt t ≤ 2000000 →
  Calls Try.prog 33 #[v, .pointer (some ⟨bl, o, none⟩)] w fun e w' => ∃ v', e = .returned v' ∧ Fr b w' v' (L ++ setsT t)

set_option maxRecDepth 100000 in
set_option maxHeartbeats 4000000 in
theorem csets_all : ∀ (n : Nat) (t : T), SizeOf.sizeOf t < n → SetsOk t
  | 0, _, h => absurd h (Nat.not_lt_zero _)
  | n + 1, t, h => fun b bl o a c hP hL w v L hF hl => by
    have hlen := hL.len
    have e := setsT_eq t
    obtain ⟨S, hS⟩ : ∃ S, setsT t = S := ⟨_, rfl⟩
    rw [hS] at e ⊢
    obtain ⟨c0, c1, c2, c3, c4, -, -, c7⟩ := (hP.keepF hF.q).eight
    have H0 := Lib.hid (And.intro hP (And.intro hL (And.intro (csets_all n) (And.intro h (And.intro hl (cnt_eq t))))))
    have HF := Lib.hid hF
    by_cases hk : t.kind = 2
    · rw [if_pos hk] at e
      have b2 : (t.kind == 2) = true := by simp [hk]
      have hcp : 1 ≤ cnt t := cnt_pos t
      obtain ⟨v', w', hrun, g1, g2, g3⟩ := hF.ol.push_far hF.q hF.far t.set (by omega) 30
      rw [← e] at g1
      have HG := Lib.hid (show Fr b w' v' (L ++ S) from ⟨g1, g2, g3⟩)
      clear hS e hP hL hF hl h hk g1 g2 g3 hcp c7 hlen
      go_enter Try.func33, Try.ntmps33
      go_wp2_with (at_builtin; refine Lib.wpList_append_run _ rfl _ _ _ _ rfl _ _ rfl rfl _ _ hrun ?_)
      clear hrun
      go_wp2_with fail
      go_ret
      exact ⟨v', rfl, HG.out⟩
    · rw [if_neg hk] at e
      have b2 : (t.kind == 2) = false := by simp [hk]
      have HE := Lib.hid e
      clear hS e hP hL hF hl h hk c1 c2 c3 c4
      go_enter Try.func33, Try.ntmps33
      go_wp2_with fail
      clear c0 c7
      go_loopg [0, 5, 23] t.subs.length (fun gg u0 s5 i wr => ∃ (k : Nat) (u : Value), i = .int .i64 k ∧ k + gg = t.subs.length ∧ u0 = u ∧ Fr b wr u (L ++ setsL (t.subs.take k)))
      case atStart => exact ⟨0, v, rfl, by omega, rfl, by rw [List.take_zero, setsL, List.append_nil]; exact HF.out⟩
      case round =>
        obtain ⟨k, u, rfl, hk, hu, hfr⟩ := hrel
        subst hu
        obtain ⟨-, -, -, -, -, -, -, c7⟩ := (H0.out.1.keepF hfr.q).eight
        by_cases hlt : k < t.subs.length
        · have hlt' : (k : Int) < t.subs.length := by omega
          have i0 : (0 : Int) ≤ k := by omega
          obtain ⟨s, hs⟩ : ∃ s, t.subs[k]? = some s := ⟨t.subs[k], List.getElem?_eq_getElem hlt⟩
          obtain ⟨b2', off, a1, e1, rfl, L1, N1⟩ := sub_ad H0.out.2.1 hs
          have hsl := sub_less hs
          have ht := setsL_take hs
          have hle : (L ++ setsL (t.subs.take k)).length + cnt s ≤ 2000000 := by
            rw [List.length_append]
            have h1 := setsL_len (t.subs.take k)
            have h2 := cntL_take hs
            have h3 := cntL_pre t.subs (k + 1)
            have h4 := H0.out.2.2.2.2.1
            have h5 := H0.out.2.2.2.2.2
            omega
          have hcall := H0.out.2.2.1 s (by have := H0.out.2.2.2.1; omega) b b2' (off + k * 8) a1 e1 N1 L1 wr u0 _ hfr hle
          rw [List.append_assoc, ← ht] at hcall
          have HQ := Lib.hid hcall
          clear hfr hcall ht hle hs L1 N1
          go_wp2_with fail
          refine HQ.out.mono ?_
          rintro e w2 ⟨v2, rfl, hf2⟩
          have Q2 := Lib.hid hf2
          clear hf2 c7
          go_wp2_with fail
          go_roundg (t.subs.length - (k + 1))
          case measure => omega
          case rel => exact ⟨k + 1, v2, by go_num, by omega, rfl, Q2.out⟩
        · have hke : k = t.subs.length := by omega
          subst hke
          rw [List.take_length, ← HE.out] at hfr
          have HQ := Lib.hid hfr
          clear hfr
          go_wp2_with fail
          go_ret
          exact ⟨u0, rfl, HQ.out⟩

set_option maxRecDepth 100000 in
set_option maxHeartbeats 2000000 in
/-- THE CODE'S SETS. -/
theorem msets_any (t : T) (hs : SOk t) (hc : cnt t ≤ 1000000) (a : Option Addr) (c : Nat) (w : World) (hL : Lie w (fun _ => True) a t.subs) :
    Calls Try.prog 10 #[nodeV t a c] w fun e w' => ∃ v, e = .returned v ∧ Fr w w' v (if rightB t = true then setsT t else []) := by
  have q := (Keep.refl (fun _ => False) w).alloc (.cells (ncells t a c) 27)
  have H0 := Lib.hid (And.intro (Bx.new (c := c) hL) (And.intro q (And.intro hs hc)))
  have hsz : w.heap.size ≤ (w.alloc (.cells (ncells t a c) 27)).heap.size := q.size
  have HZ := Lib.hid hsz
  clear hL q hs hc hsz
  cases hr : rightB t
  all_goals
    have HR := Lib.hid hr
    clear hr
    go_enter Try.func10, Try.ntmps10
    go_upto_region 1 with fail
    generalize (w.alloc (.cells (ncells t a c) 27)) = W at *
    obtain ⟨c0, c1, c2, c3, c4, c5, c6, c7⟩ := H0.out.1.eight
    go_wp2_with fail
    refine (cRight_any t H0.out.2.2.1 a c W H0.out.1.lie).mono ?_
    rintro e w1 ⟨rfl, q1⟩
    rw [HR.out]
    have H1 := Lib.hid (And.intro (H0.out.1.keep q1) (H0.out.2.1.trans q1))
    clear q1 c0 c1 c2 c3 c4 c5 c6 c7
  · go_wp2_with fail
    go_ret
    exact ⟨_, rfl, (Fr.nil w).keep H1.out.2⟩
  · have HC := Lib.hid (csets_all _ t (Nat.lt_succ_self _) w1 w.heap.size 0 a c (NodeP.of_at H1.out.1.cell) H1.out.1.lie w1 (.slice none 0 0) [] (Fr.nil w1) (by have := H0.out.2.2.2; simp; omega))
    go_wp2_with fail
    refine HC.out.mono ?_
    rintro e w2 ⟨v, rfl, hf⟩
    have HV := Lib.hid hf
    clear hf
    go_wp2_with fail
    go_ret
    exact ⟨v, rfl, HV.out.ol, H1.out.2.trans HV.out.q, fun g hg => Nat.le_trans H1.out.2.size (HV.out.far g hg)⟩
end Go.Proofs.Ytblijgcfelnlmaa.P09
