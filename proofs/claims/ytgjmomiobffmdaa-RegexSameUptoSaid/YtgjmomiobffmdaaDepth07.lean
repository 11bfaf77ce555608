/- Depth, Size, Few of an expression (layer 7): the document's own. -/
import Derived.Test.YtgjmomiobffmdaaSame07
namespace Go.Proofs.Ytgjmomiobffmdaa.P07
open Go.RowKit Go.Proofs.Ytgjmomiobffmdaa.Base Go.Proofs.Ytgjmomiobffmdaa.IL Go.Proofs.Ytgjmomiobffmdaa.Bytes

mutual
/-- How many nodes there are. -/
def cnt : T → Nat
  | .nd _ _ _ _ l => 1 + cntL l
def cntL : List T → Nat
  | [] => 0
  | t :: l => cnt t + cntL l
end
mutual
/-- How deep it is. -/
def dep : T → Nat
  | .nd _ _ _ _ l => depL l + 1
def depL : List T → Nat
  | [] => 0
  | t :: l => max (dep t) (depL l)
end
mutual
/-- How many nodes there are; above 600 it may be fewer. -/
def sz : T → Nat
  | .nd _ _ _ _ l => szL 1 l
def szL (k : Nat) : List T → Nat
  | [] => k
  | t :: l => if k ≤ 600 then szL (k + sz t) l else k
end

theorem cnt_eq (t : T) : cnt t = 1 + cntL t.subs := by cases t; rw [cnt]; rfl
theorem dep_eq (t : T) : dep t = depL t.subs + 1 := by cases t; rw [dep]; rfl
theorem sz_eq (t : T) : sz t = szL 1 t.subs := by cases t; rw [sz]; rfl
theorem cntL_append : ∀ (L M : List T), cntL (L ++ M) = cntL L + cntL M
  | [], M => by rw [List.nil_append, cntL]; omega
  | t :: L, M => by rw [List.cons_append, cntL, cntL, cntL_append L M]; omega
theorem cntL_le {L : List T} {i : Nat} {t : T} (h : L[i]? = some t) : cnt t ≤ cntL L := by
  obtain ⟨M, N, rfl⟩ := List.append_of_mem (List.mem_of_getElem? h)
  rw [cntL_append, cntL]
  omega
theorem depL_snoc : ∀ (L : List T) (t : T), depL (L ++ [t]) = max (depL L) (dep t)
  | [], t => by simp [depL]
  | s :: L, t => by rw [List.cons_append, depL, depL, depL_snoc L t]; omega
theorem dep_le_cnt : ∀ n (t : T), SizeOf.sizeOf t < n → dep t ≤ cnt t
  | 0, _, h => absurd h (Nat.not_lt_zero _)
  | n + 1, t, h => by
    rw [dep_eq, cnt_eq]
    have key : ∀ L : List T, (∀ s ∈ L, dep s ≤ cnt s) → depL L ≤ cntL L := fun L => by
      induction L with
      | nil => intro _; rw [depL, cntL]; omega
      | cons s L ih =>
        intro hL
        have h1 := hL s (by simp)
        have h2 := ih (fun x hx => hL x (by simp [hx]))
        rw [depL, cntL]
        omega
    have := key t.subs (fun s hs => by
      obtain ⟨i, hi⟩ := List.mem_iff_getElem?.1 hs
      exact dep_le_cnt n s (by have := sub_less hi; omega))
    omega
theorem depL_le (L : List T) : depL L ≤ cntL L := by
  have h1 := dep_le_cnt _ (.nd 0 ⟨0, 0, 0, 0⟩ 0 0 L) (Nat.lt_succ_self _)
  rw [dep, cnt] at h1
  omega

set_option maxRecDepth 100000 in
set_option maxHeartbeats 1000000 in
theorem depth_all : ∀ (n : Nat) (t : T), SizeOf.sizeOf t < n → cnt t ≤ 1000000000 → ∀ (a : Option Addr) (c : Nat) (w : World), Lie w (fun _ => True) a t.subs →
    Calls Try.prog 13 #[nodeV t a c] w fun e w' => e = .returned (.int .i64 (dep t)) ∧ Keep (fun _ => False) w w'
  | 0, _, h, _, _, _, _, _ => absurd h (Nat.not_lt_zero _)
  | n + 1, t, h, hc, a, c, w, hL => by
    have hlen := hL.len
    have a0 := At.new w (ncells t a c) 28
    have q := (Keep.refl (fun _ => False) w).alloc (.cells (ncells t a c) 28)
    have H0 := Lib.hid (And.intro a0 (And.intro q (And.intro hL (depth_all n))))
    rw [cnt_eq] at hc
    rw [dep_eq]
    obtain ⟨D, hD⟩ : ∃ D, depL t.subs = D := ⟨_, rfl⟩
    rw [hD]
    have HD0 := Lib.hid hD
    clear hD
    have hdl : ∀ k, depL (t.subs.take k) ≤ 1000000000 := fun k => by
      have h1 := depL_le (t.subs.take k)
      have h2 := cntL_append (t.subs.take k) (t.subs.drop k)
      rw [List.take_append_drop] at h2
      omega
    have HD := Lib.hid hdl
    clear a0 q hL hdl
    go_enter Try.func13, Try.ntmps13
    go_wp2_with fail
    generalize (w.alloc (.cells (ncells t a c) 28)) = W at *
    go_loopg [3, 4] t.subs.length (fun gg m i wr => ∃ k : Nat, i = .int .i64 k ∧ k + gg = t.subs.length ∧ m = .int .i64 (depL (t.subs.take k)) ∧ Keep (fun _ => False) W wr)
    case atStart => exact ⟨0, rfl, by omega, by rw [List.take_zero, depL]; rfl, Keep.refl _ _⟩
    case round =>
      obtain ⟨k, rfl, hk, rfl, hq⟩ := hrel
      have A0 := H0.out.1.keep hq (fun h => h)
      have c7 : wr.cell? ⟨w.heap.size, 7, none⟩ = some (.slice a t.subs.length c) := A0.cell (o := 7) rfl
      have hm := HD.out k
      by_cases hlt : k < t.subs.length
      · have hlt' : (k : Int) < t.subs.length := by omega
        obtain ⟨s, hs⟩ : ∃ s, t.subs[k]? = some s := ⟨t.subs[k], List.getElem?_eq_getElem hlt⟩
        obtain ⟨bl, off, a1, c1, rfl, -, -, -, L1, C1⟩ := (H0.out.2.2.1.keepF (H0.out.2.1.trans hq)).get hs
        obtain ⟨d0, d1, d2, d3, d4, d5, d6, d7⟩ := ncell C1
        have hsl := sub_less hs
        have hcl := cntL_le hs
        have hcall := H0.out.2.2.2 s (by omega) (by omega) a1 c1 wr L1
        have htk : depL (t.subs.take (k + 1)) = max (depL (t.subs.take k)) (dep s) := by rw [List.take_add_one, hs]; exact depL_snoc _ _
        have hds : dep s ≤ 1000000000 := by
          have := dep_le_cnt _ s (Nat.lt_succ_self _)
          omega
        have HQ := Lib.hid (And.intro hq (And.intro hcall htk))
        clear hq hcall htk hs L1 C1 A0
        generalize depL (t.subs.take k) = m at *
        generalize dep s = d at *
        have i0 : (0 : Int) ≤ k := by omega
        rcases Nat.lt_trichotomy m d with hmd | hmd | hmd
        · have e1 : (m : Int) < d := by omega
          have e2 : ¬ (d : Int) < m := by omega
          have e3 : (m : Int) ≤ d := by omega
          have e4 : ¬ (d : Int) ≤ m := by omega
          go_wp2_with fail
          refine HQ.out.2.1.mono ?_
          rintro e w2 ⟨rfl, q2⟩
          have Q2 := Lib.hid q2
          clear q2
          go_wp2_with fail
          go_roundg (t.subs.length - (k + 1))
          case measure => omega
          case rel => exact ⟨k + 1, by go_num, by omega, by rw [HQ.out.2.2]; first | rfl | (congr 1; omega), HQ.out.1.trans Q2.out⟩
        · subst hmd
          have e2 : ¬ (m : Int) < m := by omega
          have e3 : (m : Int) ≤ m := by omega
          go_wp2_with fail
          refine HQ.out.2.1.mono ?_
          rintro e w2 ⟨rfl, q2⟩
          have Q2 := Lib.hid q2
          clear q2
          go_wp2_with fail
          go_roundg (t.subs.length - (k + 1))
          case measure => omega
          case rel => exact ⟨k + 1, by go_num, by omega, by rw [HQ.out.2.2]; first | rfl | (congr 1; omega), HQ.out.1.trans Q2.out⟩
        · have e1 : (d : Int) < m := by omega
          have e2 : ¬ (m : Int) < d := by omega
          have e3 : (d : Int) ≤ m := by omega
          have e4 : ¬ (m : Int) ≤ d := by omega
          go_wp2_with fail
          refine HQ.out.2.1.mono ?_
          rintro e w2 ⟨rfl, q2⟩
          have Q2 := Lib.hid q2
          clear q2
          go_wp2_with fail
          go_roundg (t.subs.length - (k + 1))
          case measure => omega
          case rel => exact ⟨k + 1, by go_num, by omega, by rw [HQ.out.2.2]; first | rfl | (congr 1; omega), HQ.out.1.trans Q2.out⟩
      · have hke : k = t.subs.length := by omega
        subst hke
        rw [List.take_length, HD0.out] at hm ⊢
        have HQ := Lib.hid hq
        clear hq A0
        have w1 : IntKind.i64.wrap ((D : Int) + 1) = (D : Int) + 1 := by rw [IntKind.wrap_i64]; omega
        go_wp2_with fail
        go_ret
        exact ⟨by first | rfl | (congr 1), H0.out.2.1.trans HQ.out⟩
end Go.Proofs.Ytgjmomiobffmdaa.P07
