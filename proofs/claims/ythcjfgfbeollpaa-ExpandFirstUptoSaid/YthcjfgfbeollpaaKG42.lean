/- The code's withSets and Sets (layer 9). -/
import Derived.Test.YthcjfgfbeollpaaKG18
import Derived.Test.YthcjfgfbeollpaaKG34
import Derived.Lib.AppendZeros
import Derived.Maps.AppendAt
namespace Go.Proofs.Ythcjfgfbeollpaa.P09
open Go.RowKit Go.Proofs.Ythcjfgfbeollpaa.Base Go.Proofs.Ythcjfgfbeollpaa.Bytes Go.Proofs.Ythcjfgfbeollpaa.P07 Go.Proofs.Ythcjfgfbeollpaa.P08 Go.Proofs.Ythcjfgfbeollpaa.OL
open Go.Proofs.Ythcjfgfbeollpaa.Sets (ST)

mutual
/-- Its classes, from the left to the right. -/
def setsT : T → List ST
  | .nd k s _ _ l => if k = 2 then [s] else setsL l
def setsL : List T → List ST
  | [] => []
  | t :: l => setsT t ++ setsL l
end
theorem setsT_eq (t : T) : setsT t = if t.kind = 2 then [t.set] else setsL t.subs := by
  cases t
  rw [setsT]
  rfl
theorem setsL_append : ∀ (L : List T) (t : T), setsL (L ++ [t]) = setsL L ++ setsT t
  | [], t => by rw [List.nil_append, setsL, setsL, setsL]; simp
  | s :: L, t => by rw [List.cons_append, setsL, setsL, setsL_append L, List.append_assoc]
theorem setsL_take {L : List T} {i : Nat} {s : T} (h : L[i]? = some s) : setsL (L.take (i + 1)) = setsL (L.take i) ++ setsT s := by
  rw [List.take_add_one, h]
  exact setsL_append _ s
mutual
theorem setsT_len : ∀ t : T, (setsT t).length ≤ cnt t
  | .nd k s mn mx l => by
    rw [setsT, cnt]
    have := setsL_len l
    split
    · simp
    · omega
theorem setsL_len : ∀ l : List T, (setsL l).length ≤ cntL l
  | [] => by rw [setsL, cntL]; exact Nat.le_refl _
  | t :: l => by
    rw [setsL, cntL, List.length_append]
    have := setsT_len t
    have := setsL_len l
    omega
end

/-- A list of the program's own, that was not there in the world b. -/
structure Fr (b w : World) (v : Value) (L : List ST) : Prop where
  ol : OL w v L
  q : Keep (fun _ => False) b w
  far : ∀ g, v.ownBlock = some g → b.heap.size ≤ g
theorem Fr.keep {b w w' : World} {v : Value} {L : List ST} (h : Fr b w v L) (k : Keep (fun _ => False) w w') : Fr b w' v L := ⟨h.ol.keep k (fun _ _ h => h), h.q.trans k, h.far⟩
theorem Fr.nil (b : World) : Fr b b (.slice none 0 0) [] := ⟨OL.nil b, Keep.refl _ _, fun g hg => by cases hg⟩
end Go.Proofs.Ythcjfgfbeollpaa.P09
/- The document's Sets (layer 9). -/
namespace Go.Proofs.Ythcjfgfbeollpaa.P09
open Go.RowKit Go.Proofs.Ythcjfgfbeollpaa.Base Go.Proofs.Ythcjfgfbeollpaa.Bytes Go.Proofs.Ythcjfgfbeollpaa.P07 Go.Proofs.Ythcjfgfbeollpaa.P08 Go.Proofs.Ythcjfgfbeollpaa.OL
open Go.Proofs.Ythcjfgfbeollpaa.Sets (ST)

def FSetsOk (t : T) : Prop := ∀ (a : Option Addr) (c : Nat) (w : World), Lie w (fun _ => True) a t.subs → cnt t ≤ 1000000 →
  Calls Try.prog 25 #[nodeV t a c] w fun e w' => ∃ v, e = .returned v ∧ Fr w w' v (setsT t)
/-- Two lists of the program's own, put together. -/
theorem Fr.append {b w : World} {v : Value} {L : List ST} (h : Fr b w v L) {a : Option Addr} {c : Nat} {M : List ST} (hs : SetL.SL w a M) (hl : L.length + M.length ≤ 2097152) (ty : TypeId) :
    ∃ v' w', (Builtin.append_ #[42, 42] ty #[v, .slice a M.length c]).run Try.prog w = .ok v' w' ∧ Fr b w' v' (L ++ M) := by
  obtain ⟨v', w', hrun, g1, g2, g3⟩ := h.ol.append M a c hs hl ty
  refine ⟨v', w', hrun, g1, h.q.next g2 (fun i hh hi => by have := h.far i hh; omega), fun g hg => ?_⟩
  rcases g3 g hg with h1 | h1
  · exact h.far g h1
  · exact Nat.le_trans h.q.size h1

set_option maxRecDepth 100000 in
set_option maxHeartbeats 4000000 in
theorem fsets_all : ∀ (n : Nat) (t : T), SizeOf.sizeOf t < n → FSetsOk t
  | 0, _, h => absurd h (Nat.not_lt_zero _)
  | n + 1, t, h => fun a c w hL hc => by
    have hlen := hL.len
    have q := (Keep.refl (fun _ => False) w).alloc (.cells (ncells t a c) 27)
    have e := setsT_eq t
    obtain ⟨S, hS⟩ : ∃ S, setsT t = S := ⟨_, rfl⟩
    rw [hS] at e ⊢
    have H0 := Lib.hid (And.intro (Bx.new (c := c) hL) (And.intro q (And.intro (fsets_all n) (And.intro h (And.intro hc (cnt_eq t))))))
    clear hL q h hc hS
    by_cases hk : t.kind = 2
    · rw [if_pos hk] at e
      have b2 : (t.kind == 2) = true := by simp [hk]
      have HE := Lib.hid e
      clear e hk
      go_enter Try.func25, Try.ntmps25
      go_upto_region 1 with fail
      generalize (w.alloc (.cells (ncells t a c) 27)) = W at *
      obtain ⟨c0, c1, c2, c3, c4, c5, c6, c7⟩ := H0.out.1.eight
      go_wp2_with fail
      have q2 := H0.out.2.1.alloc (.cells (cells t.set) 24)
      go_ret
      exact ⟨_, rfl, by rw [HE.out]; exact new_one W t.set, q2, fun g hg => by cases hg; exact H0.out.2.1.size⟩
    · rw [if_neg hk] at e
      have b2 : (t.kind == 2) = false := by simp [hk]
      have HE := Lib.hid e
      clear e hk
      go_enter Try.func25, Try.ntmps25
      go_upto_region 1 with fail
      generalize (w.alloc (.cells (ncells t a c) 27)) = W at *
      generalize w.heap.size = n0 at *
      obtain ⟨c0, -, -, -, -, -, -, -⟩ := H0.out.1.eight
      go_wp2_with fail
      clear c0
      go_loopg [3, 4] t.subs.length (fun gg u0 i wr => ∃ (k : Nat) (u : Value), i = .int .i64 k ∧ k + gg = t.subs.length ∧ u0 = u ∧ Fr W wr u (setsL (t.subs.take k)))
      case atStart => exact ⟨0, _, rfl, by omega, rfl, by rw [List.take_zero, setsL]; exact Fr.nil W⟩
      case round =>
        obtain ⟨k, u, rfl, hk, hu, hfr⟩ := hrel
        subst hu
        have B1 := H0.out.1.keep hfr.q
        obtain ⟨-, -, -, -, -, -, -, c7⟩ := B1.eight
        by_cases hlt : k < t.subs.length
        · have hlt' : (k : Int) < t.subs.length := by omega
          have i0 : (0 : Int) ≤ k := by omega
          obtain ⟨s, hs⟩ : ∃ s, t.subs[k]? = some s := ⟨t.subs[k], List.getElem?_eq_getElem hlt⟩
          obtain ⟨bl, off, a1, e1, rfl, L1, d0, d1, d2, d3, d4, d5, d6, d7⟩ := B1.sub hs
          have hsl := sub_less hs
          have ht := setsL_take hs
          have hcs := cntL_le hs
          have hle : (setsL (t.subs.take k)).length + (setsT s).length ≤ 2097152 := by
            have h1 := setsL_len (t.subs.take (k + 1))
            have h2 := cntL_pre t.subs (k + 1)
            have h4 := H0.out.2.2.2.2.1
            have h5 := H0.out.2.2.2.2.2
            rw [ht, List.length_append] at h1
            omega
          have hcall := H0.out.2.2.1 s (by have := H0.out.2.2.2.1; omega) a1 e1 wr L1 (by have h4 := H0.out.2.2.2.2.1; have h5 := H0.out.2.2.2.2.2; omega)
          obtain ⟨A, hA⟩ : ∃ A, setsL (t.subs.take k) = A := ⟨_, rfl⟩
          obtain ⟨Y, hY⟩ : ∃ Y, setsT s = Y := ⟨_, rfl⟩
          rw [hA] at hfr hle ht
          rw [hY] at hcall hle ht
          have HQ := Lib.hid (And.intro hcall (And.intro hfr (And.intro hle ht)))
          clear hfr hcall ht hle hs hcs B1 L1 hA hY
          go_wp2_with fail
          refine HQ.out.1.mono ?_
          rintro e w2 ⟨v2, rfl, hf2⟩
          have hf1 := HQ.out.2.1.keep hf2.q
          obtain ⟨a2, cap2, rfl, hsl2, -⟩ := hf2.ol.form
          obtain ⟨v', w3, hrun, hf3⟩ := hf1.append (c := cap2) hsl2 HQ.out.2.2.1 42
          rw [← HQ.out.2.2.2] at hf3
          have Q3 := Lib.hid hf3
          clear hf2 hf1 hsl2 hf3 c7 d0 d1 d2 d3 d4 d5 d6 d7
          go_wp2_with (at_builtin; refine Lib.wpList_append_run _ rfl _ _ _ _ rfl _ _ rfl rfl _ _ hrun ?_)
          clear hrun
          go_wp2_with fail
          go_roundg (t.subs.length - (k + 1))
          case measure => omega
          case rel => exact ⟨k + 1, v', by go_num, by omega, rfl, Q3.out⟩
        · have hke : k = t.subs.length := by omega
          subst hke
          rw [List.take_length, ← HE.out] at hfr
          have HQ := Lib.hid hfr
          clear hfr B1
          go_wp2_with fail
          go_ret
          exact ⟨u3, rfl, HQ.out.ol, H0.out.2.1.trans HQ.out.q, fun g hg => Nat.le_trans H0.out.2.1.size (HQ.out.far g hg)⟩
theorem fsets_any (t : T) (a : Option Addr) (c : Nat) (w : World) (hL : Lie w (fun _ => True) a t.subs) (hc : cnt t ≤ 1000000) : Calls Try.prog 25 #[nodeV t a c] w fun e w' => ∃ v, e = .returned v ∧ Fr w w' v (setsT t) :=
  fsets_all _ t (Nat.lt_succ_self _) a c w hL hc
end Go.Proofs.Ythcjfgfbeollpaa.P09
