/- Same of two expressions (layer 7): the document's own, by structure. -/
import Derived.Test.YtblijgcfelnlmaaKP13
import Derived.Laws.StructEq
import Derived.Laws.Tables
import Derived.Deep.RegionHeld3
import Derived.Test.YtblijgcfelnlmaaKP01
import Derived.Test.YtblijgcfelnlmaaKP03
namespace Go.Proofs.Ytblijgcfelnlmaa.Bytes
open Go.RowKit Go.Proofs.Ytblijgcfelnlmaa.Base Go.Proofs.Ytblijgcfelnlmaa.Sets

theorem eq_set4 (a0 a1 a2 a3 b0 b1 b2 b3 : Int) (w : World) : (Op.equalIn 10000 24 (.agg #[.int .u64 a0, .int .u64 a1, .int .u64 a2, .int .u64 a3]) (.agg #[.int .u64 b0, .int .u64 b1, .int .u64 b2, .int .u64 b3])).run Try.prog w = .ok (a0 == b0 && (a1 == b1 && (a2 == b2 && a3 == b3))) w := by
  have u3 := Try.underlying22
  have a3' := Try.isAgg22
  have z3 := Try.sizeOf22
  rw [show (10000 : Nat) = 9999 + 1 from rfl, Op.equalIn]
  simp only [Sem.run_bind, run_underlying Try.underlying24, Result.andThen_ok]
  simp only [Std.Legacy.Range.forIn_eq_forIn_range', Std.Legacy.Range.size, Nat.sub_zero, Nat.add_sub_cancel, Nat.div_one, List.range'_succ, List.range'_zero, List.forIn_cons, List.forIn_nil]
  go_simp
  by_cases h1 : a0 = b0 <;> by_cases h2 : a1 = b1 <;> by_cases h3 : a2 = b2 <;> by_cases h4 : a3 = b3 <;> simp [h1, h2, h3, h4]

/-- Are two sets one? -/
def eqB (s t : ST) : Bool := (s.x0 : Int) == t.x0 && ((s.x1 : Int) == t.x1 && ((s.x2 : Int) == t.x2 && (s.x3 : Int) == t.x3))

theorem eqB_iff {s t : ST} : eqB s t = true ↔ s = t := by
  obtain ⟨a0, a1, a2, a3⟩ := s
  obtain ⟨b0, b1, b2, b3⟩ := t
  unfold eqB
  simp only [Bool.and_eq_true, beq_iff_eq, ST.mk.injEq]
  omega

theorem eqB_refl (s : ST) : eqB s s = true := eqB_iff.2 rfl
theorem eqB_ne {s t : ST} (h : s ≠ t) : eqB s t = false := by
  cases e : eqB s t
  · rfl
  · exact absurd (eqB_iff.1 e) h

theorem eq_set (s t : ST) (w : World) : (Op.equalIn 10000 24 (val s) (val t)).run Try.prog w = .ok (eqB s t) w := eq_set4 _ _ _ _ _ _ _ _ w
theorem eq_yes {s t : ST} (h : s = t) (w : World) : (Op.equalIn 10000 24 (val s) (val t)).run Try.prog w = .ok true w := by
  rw [eq_set, eqB_iff.2 h]
theorem eq_no {s t : ST} (h : s ≠ t) (w : World) : (Op.equalIn 10000 24 (val s) (val t)).run Try.prog w = .ok false w := by
  rw [eq_set, eqB_ne h]
end Go.Proofs.Ytblijgcfelnlmaa.Bytes
namespace Go.Proofs.Ytblijgcfelnlmaa.P07
open Go.RowKit Go.Proofs.Ytblijgcfelnlmaa.Base Go.Proofs.Ytblijgcfelnlmaa.IL Go.Proofs.Ytblijgcfelnlmaa.Bytes
open Go.Proofs.Ytblijgcfelnlmaa.Sets (ST)

theorem T.ext {a b : T} (h1 : a.kind = b.kind) (h2 : a.set = b.set) (h3 : a.mn = b.mn) (h4 : a.mx = b.mx) (h5 : a.subs = b.subs) : a = b := by
  cases a
  cases b
  unfold T.kind T.set T.mn T.mx T.subs at *
  dsimp only at *
  subst h1 h2 h3 h4 h5
  rfl
theorem sub_less {a t : T} {i : Nat} (h : a.subs[i]? = some t) : SizeOf.sizeOf t < SizeOf.sizeOf a := by
  cases a with
  | nd k s m x l =>
    have h1 := List.sizeOf_lt_of_mem (List.mem_of_getElem? h)
    have e : (T.nd k s m x l).subs = l := rfl
    rw [e] at h1
    simp
    omega

/-- The cells of a node, one by one. -/
theorem ncell {w : World} {bl o : Nat} {t : T} {a : Option Addr} {c : Nat} (h : ∀ j v, (ncells t a c)[j]? = some v → w.cell? ⟨bl, o + j, none⟩ = some v) :
    w.cell? ⟨bl, o, none⟩ = some (.int .i64 t.kind) ∧ w.cell? ⟨bl, o + 1, none⟩ = some (.int .u64 t.set.x0) ∧ w.cell? ⟨bl, o + 2, none⟩ = some (.int .u64 t.set.x1) ∧ w.cell? ⟨bl, o + 3, none⟩ = some (.int .u64 t.set.x2) ∧ w.cell? ⟨bl, o + 4, none⟩ = some (.int .u64 t.set.x3) ∧ w.cell? ⟨bl, o + 5, none⟩ = some (.int .i64 t.mn) ∧ w.cell? ⟨bl, o + 6, none⟩ = some (.int .i64 t.mx) ∧ w.cell? ⟨bl, o + 7, none⟩ = some (.slice a t.subs.length c) :=
  ⟨h 0 _ rfl, h 1 _ rfl, h 2 _ rfl, h 3 _ rfl, h 4 _ rfl, h 5 _ rfl, h 6 _ rfl, h 7 _ rfl⟩

/-- What Same answers of a and b. -/
def IsSame (a b : T) (w : World) (e : Ending) (w' : World) : Prop := ∃ v : Bool, e = .returned (.bool v) ∧ (v = true ↔ a = b) ∧ Keep (fun _ => False) w w'

end Go.Proofs.Ytblijgcfelnlmaa.P07
/- Depth, Size, Few of an expression (layer 7): the document's own. -/
namespace Go.Proofs.Ytblijgcfelnlmaa.P07
open Go.RowKit Go.Proofs.Ytblijgcfelnlmaa.Base Go.Proofs.Ytblijgcfelnlmaa.IL Go.Proofs.Ytblijgcfelnlmaa.Bytes

mutual
/-- How many nodes there are. -/
def cnt : T → Nat
  | .nd _ _ _ _ l => 1 + cntL l
def cntL : List T → Nat
  | [] => 0
  | t :: l => cnt t + cntL l
end
mutual
/-- How deep it is. -/
def dep : T → Nat
  | .nd _ _ _ _ l => depL l + 1
def depL : List T → Nat
  | [] => 0
  | t :: l => max (dep t) (depL l)
end
mutual
/-- How many nodes there are; above 600 it may be fewer. -/
def sz : T → Nat
  | .nd _ _ _ _ l => szL 1 l
def szL (k : Nat) : List T → Nat
  | [] => k
  | t :: l => if k ≤ 600 then szL (k + sz t) l else k
end

theorem cnt_eq (t : T) : cnt t = 1 + cntL t.subs := by cases t; rw [cnt]; rfl
theorem dep_eq (t : T) : dep t = depL t.subs + 1 := by cases t; rw [dep]; rfl
theorem sz_eq (t : T) : sz t = szL 1 t.subs := by cases t; rw [sz]; rfl
theorem cntL_append : ∀ (L M : List T), cntL (L ++ M) = cntL L + cntL M
  | [], M => by rw [List.nil_append, cntL]; omega
  | t :: L, M => by rw [List.cons_append, cntL, cntL, cntL_append L M]; omega
theorem cntL_le {L : List T} {i : Nat} {t : T} (h : L[i]? = some t) : cnt t ≤ cntL L := by
  obtain ⟨M, N, rfl⟩ := List.append_of_mem (List.mem_of_getElem? h)
  rw [cntL_append, cntL]
  omega
theorem depL_snoc : ∀ (L : List T) (t : T), depL (L ++ [t]) = max (depL L) (dep t)
  | [], t => by simp [depL]
  | s :: L, t => by rw [List.cons_append, depL, depL, depL_snoc L t]; omega
theorem dep_le_cnt : ∀ n (t : T), SizeOf.sizeOf t < n → dep t ≤ cnt t
  | 0, _, h => absurd h (Nat.not_lt_zero _)
  | n + 1, t, h => by
    rw [dep_eq, cnt_eq]
    have key : ∀ L : List T, (∀ s ∈ L, dep s ≤ cnt s) → depL L ≤ cntL L := fun L => by
      induction L with
      | nil => intro _; rw [depL, cntL]; omega
      | cons s L ih =>
        intro hL
        have h1 := hL s (by simp)
        have h2 := ih (fun x hx => hL x (by simp [hx]))
        rw [depL, cntL]
        omega
    have := key t.subs (fun s hs => by
      obtain ⟨i, hi⟩ := List.mem_iff_getElem?.1 hs
      exact dep_le_cnt n s (by have := sub_less hi; omega))
    omega
theorem depL_le (L : List T) : depL L ≤ cntL L := by
  have h1 := dep_le_cnt _ (.nd 0 ⟨0, 0, 0, 0⟩ 0 0 L) (Nat.lt_succ_self _)
  rw [dep, cnt] at h1
  omega

end Go.Proofs.Ytblijgcfelnlmaa.P07
/- Size and Few of an expression (layer 7): the document's own. -/
namespace Go.Proofs.Ytblijgcfelnlmaa.P07
open Go.RowKit Go.Proofs.Ytblijgcfelnlmaa.Base Go.Proofs.Ytblijgcfelnlmaa.IL Go.Proofs.Ytblijgcfelnlmaa.Bytes

theorem szL_le : ∀ (L : List T) (k : Nat), (∀ t ∈ L, sz t ≤ cnt t) → szL k L ≤ k + cntL L
  | [], k, _ => by rw [szL, cntL]; omega
  | t :: L, k, h => by
    rw [szL, cntL]
    have h1 := h t (by simp)
    split
    · have := szL_le L (k + sz t) (fun x hx => h x (by simp [hx]))
      omega
    · omega
theorem sz_le_cnt : ∀ n (t : T), SizeOf.sizeOf t < n → sz t ≤ cnt t
  | 0, _, h => absurd h (Nat.not_lt_zero _)
  | n + 1, t, h => by
    rw [sz_eq, cnt_eq]
    exact szL_le _ _ (fun s hs => by
      obtain ⟨i, hi⟩ := List.mem_iff_getElem?.1 hs
      exact sz_le_cnt n s (by have := sub_less hi; omega))
theorem sz_cnt (t : T) : sz t ≤ cnt t := sz_le_cnt _ t (Nat.lt_succ_self _)
theorem szL_ge : ∀ (L : List T) (k : Nat), k ≤ szL k L
  | [], k => by rw [szL]; omega
  | t :: L, k => by
    rw [szL]
    split
    · have := szL_ge L (k + sz t)
      omega
    · omega
theorem szL_exact : ∀ (L : List T) (k : Nat), (∀ t ∈ L, sz t ≤ 600 → sz t = cnt t) → szL k L ≤ 600 → szL k L = k + cntL L
  | [], k, _, _ => by rw [szL, cntL]; omega
  | t :: L, k, h, h6 => by
    rw [szL] at h6 ⊢
    rw [cntL]
    split at h6
    · rename_i hk
      rw [if_pos hk]
      have h1 := szL_ge L (k + sz t)
      have h2 := h t (by simp) (by omega)
      rw [szL_exact L (k + sz t) (fun x hx => h x (by simp [hx])) h6]
      omega
    · omega
theorem sz_exact : ∀ n (t : T), SizeOf.sizeOf t < n → sz t ≤ 600 → sz t = cnt t
  | 0, _, h, _ => absurd h (Nat.not_lt_zero _)
  | n + 1, t, h, h6 => by
    rw [sz_eq] at h6 ⊢
    rw [cnt_eq]
    exact szL_exact _ _ (fun s hs => by
      obtain ⟨i, hi⟩ := List.mem_iff_getElem?.1 hs
      exact sz_exact n s (by have := sub_less hi; omega)) h6
/-- Few nodes: so many. -/
theorem few_cnt {t : T} (h : sz t ≤ 200) : cnt t ≤ 200 := by
  have := sz_exact _ t (Nat.lt_succ_self _) (by omega)
  omega
theorem szL_split : ∀ (L M : List T) (k : Nat), szL k L ≤ 600 → szL k (L ++ M) = szL (szL k L) M
  | [], M, k, _ => by rw [List.nil_append, szL]
  | t :: L, M, k, h => by
    rw [szL] at h
    split at h
    · rename_i hk
      rw [List.cons_append, szL, if_pos hk, szL_split L M _ h]
      conv => rhs; rw [szL, if_pos hk]
    · rename_i hk
      omega

set_option maxRecDepth 100000 in
set_option maxHeartbeats 1000000 in
theorem size_all : ∀ (n : Nat) (t : T), SizeOf.sizeOf t < n → cnt t ≤ 1000000000 → ∀ (a : Option Addr) (c : Nat) (w : World), Lie w (fun _ => True) a t.subs →
    Calls Try.prog 31 #[nodeV t a c] w fun e w' => e = .returned (.int .i64 (sz t)) ∧ Keep (fun _ => False) w w'
  | 0, _, h, _, _, _, _, _ => absurd h (Nat.not_lt_zero _)
  | n + 1, t, h, hc, a, c, w, hL => by
    have hlen := hL.len
    have a0 := At.new w (ncells t a c) 27
    have q := (Keep.refl (fun _ => False) w).alloc (.cells (ncells t a c) 27)
    have H0 := Lib.hid (And.intro a0 (And.intro q (And.intro hL (size_all n))))
    have hsc := sz_cnt t
    rw [cnt_eq] at hc hsc
    rw [sz_eq] at hsc ⊢
    obtain ⟨D, hD⟩ : ∃ D, szL 1 t.subs = D := ⟨_, rfl⟩
    rw [hD] at hsc ⊢
    have HD0 := Lib.hid hD
    clear a0 q hL hD
    go_enter Try.func31, Try.ntmps31
    go_wp2_with fail
    generalize (w.alloc (.cells (ncells t a c) 27)) = W at *
    go_loopg [3, 4] t.subs.length (fun gg m i wr => ∃ k s : Nat, i = .int .i64 k ∧ k + gg = t.subs.length ∧ m = .int .i64 s ∧ s ≤ 1000000000 ∧ szL s (t.subs.drop k) = D ∧ Keep (fun _ => False) W wr)
    case atStart => exact ⟨0, 1, rfl, by omega, rfl, by omega, by rw [List.drop_zero]; exact HD0.out, Keep.refl _ _⟩
    case round =>
      obtain ⟨k, m, rfl, hk, rfl, hm, hE, hq⟩ := hrel
      have A0 := H0.out.1.keep hq (fun h => h)
      have c7 : wr.cell? ⟨w.heap.size, 7, none⟩ = some (.slice a t.subs.length c) := A0.cell (o := 7) rfl
      by_cases hlt : k < t.subs.length
      · have hlt' : (k : Int) < t.subs.length := by omega
        obtain ⟨s, hs⟩ : ∃ s, t.subs[k]? = some s := ⟨t.subs[k], List.getElem?_eq_getElem hlt⟩
        have hdr : t.subs.drop k = s :: t.subs.drop (k + 1) := by
          have e := List.getElem?_eq_some_iff.1 hs
          rw [← e.2]
          exact List.drop_eq_getElem_cons hlt
        rw [hdr, szL] at hE
        by_cases h6 : m ≤ 600
        · rw [if_pos h6] at hE
          have h6' : (m : Int) ≤ 600 := by omega
          obtain ⟨bl, off, a1, c1, rfl, -, -, -, L1, C1⟩ := (H0.out.2.2.1.keepF (H0.out.2.1.trans hq)).get hs
          obtain ⟨d0, d1, d2, d3, d4, d5, d6, d7⟩ := ncell C1
          have hsl := sub_less hs
          have hcl := cntL_le hs
          have hcall := H0.out.2.2.2 s (by omega) (by omega) a1 c1 wr L1
          have hsz := sz_cnt s
          have hle : m + sz s ≤ 1000000000 := by
            have := szL_ge (t.subs.drop (k + 1)) (m + sz s)
            omega
          have HQ := Lib.hid (And.intro hq (And.intro hcall hE))
          clear hq hcall hs L1 C1 A0 hdr hE
          generalize sz s = d at *
          have i0 : (0 : Int) ≤ k := by omega
          have w1 : IntKind.i64.wrap ((m : Int) + d) = (m : Int) + d := by rw [IntKind.wrap_i64]; omega
          go_wp2_with fail
          refine HQ.out.2.1.mono ?_
          rintro e w2 ⟨rfl, q2⟩
          have Q2 := Lib.hid q2
          clear q2
          go_wp2_with fail
          go_roundg (t.subs.length - (k + 1))
          case measure => omega
          case rel => exact ⟨k + 1, m + d, by go_num, by omega, by first | rfl | (congr 1), hle, HQ.out.2.2, HQ.out.1.trans Q2.out⟩
        · rw [if_neg h6] at hE
          subst hE
          have h6' : ¬ (m : Int) ≤ 600 := by omega
          have HQ := Lib.hid hq
          clear hq A0 hs hdr
          go_wp2_with fail
          go_ret
          exact ⟨rfl, H0.out.2.1.trans HQ.out⟩
      · have hke : k = t.subs.length := by omega
        subst hke
        rw [List.drop_length, szL] at hE
        subst hE
        have HQ := Lib.hid hq
        clear hq A0
        go_wp2_with fail
        go_ret
        exact ⟨rfl, H0.out.2.1.trans HQ.out⟩

theorem few_any (t : T) (hc : cnt t ≤ 1000000000) (a : Option Addr) (c : Nat) (w : World) (hL : Lie w (fun _ => True) a t.subs) :
    Calls Try.prog 9 #[nodeV t a c] w fun e w' => e = .returned (.bool (decide (sz t ≤ 200))) ∧ Keep (fun _ => False) w w' := by
  have H := Lib.hid (size_all _ t (Nat.lt_succ_self _) hc a c)
  have HL := Lib.hid hL
  clear hL
  by_cases h2 : sz t ≤ 200
  · have h2' : (sz t : Int) ≤ 200 := by omega
    have he := decide_eq_true h2
    rw [he]
    clear he h2
    go_enter Try.func9, Try.ntmps9
    go_wp2_with fail
    refine (H.out _ (by first | exact HL.out | exact HL.out.keepF ((Keep.refl _ _).alloc _))).mono ?_
    rintro e w2 ⟨rfl, q2⟩
    have Q2 := Lib.hid q2
    clear q2
    go_wp2_with fail
    go_ret
    exact ⟨rfl, by first | exact Q2.out | exact ((Keep.refl (fun _ => False) w).alloc _).trans Q2.out⟩
  · have h2' : ¬ (sz t : Int) ≤ 200 := by omega
    have HF := Lib.hid h2'
    have he := decide_eq_false h2
    rw [he]
    clear he h2
    go_enter Try.func9, Try.ntmps9
    go_wp2_with fail
    refine (H.out _ (by first | exact HL.out | exact HL.out.keepF ((Keep.refl _ _).alloc _))).mono ?_
    rintro e w2 ⟨rfl, q2⟩
    have Q2 := Lib.hid q2
    clear q2
    go_wp2_with fail
    go_ret
    exact ⟨by first | rfl | exact ret_bool (decide_eq_false (by have := HF.out; omega)), by first | exact Q2.out | exact ((Keep.refl (fun _ => False) w).alloc _).trans Q2.out⟩
end Go.Proofs.Ytblijgcfelnlmaa.P07
/- The document's parser (layer 7): class (its loop's relation). -/
namespace Go.Proofs.Ytblijgcfelnlmaa.P07
open Go.RowKit Go.Proofs.Ytblijgcfelnlmaa.Base Go.Proofs.Ytblijgcfelnlmaa.IL Go.Proofs.Ytblijgcfelnlmaa.Bytes
open Go.Proofs.Ytblijgcfelnlmaa.Sets (ST)

theorem one_range (l : List UInt8) (s : PS) : 0 ≤ (one l s).1 ∧ (one l s).1 ≤ 255 := by
  have hn : ∀ s : PS, -1 ≤ nxt l s ∧ nxt l s < 256 := fun s => nxt_range l s
  unfold one oneB
  split
  · rename_i h
    have := hn s
    have h0 : 0 ≤ nxt l s := by
      by_cases h1 : 0 ≤ nxt l s
      · exact h1
      · rw [plainI_no (by omega)] at h
        cases h
    dsimp only
    omega
  · split
    · unfold escP escB
      split
      · unfold two
        have h1 := digit_range l s.adv.adv
        have h2 := digit_range l (digit l s.adv.adv).2
        dsimp only
        omega
      · split
        · dsimp only
          omega
        · split
          · dsimp only
            omega
          · split
            · rename_i h
              have := hn s.adv
              have h0 : 0 ≤ nxt l s.adv := by
                by_cases h1 : 0 ≤ nxt l s.adv
                · exact h1
                · rw [nxt_neg h1] at h
                  exact absurd h (by decide)
              dsimp only
              omega
            · dsimp only
              omega
    · dsimp only
      omega
theorem upto_len (lo hi : Int) : (upto lo hi).length = (hi + 1 - lo).toNat := by unfold upto; rw [List.length_map, List.length_range]
theorem upto_take {lo hi : Int} {j : Nat} (hj : j < (hi + 1 - lo).toNat) : (upto lo hi).take (j + 1) = (upto lo hi).take j ++ [lo.toNat + j] := by
  have e : (upto lo hi)[j]? = some (lo.toNat + j) := by
    unfold upto
    rw [List.getElem?_map, List.getElem?_range hj]
    rfl
  rw [List.take_add_one, e]
  rfl
theorem upto_lt {lo hi : Int} (h0 : 0 ≤ lo) (h1 : hi ≤ 255) : ∀ x ∈ upto lo hi, x < 256 := fun x hx => by
  obtain ⟨i, hi', rfl⟩ := List.mem_map.1 hx
  have := List.mem_range.1 hi'
  omega
theorem ints_snoc (L : List Nat) (x : Nat) : ints (L ++ [x]) = ints L ++ [(x : Int)] := by
  unfold ints
  rw [List.map_append]
  rfl
@[reducible] def nzeros : Array Value := #[.int .i64 0, .int .u64 0, .int .u64 0, .int .u64 0, .int .u64 0, .int .i64 0, .int .i64 0, .slice none 0 0]

end Go.Proofs.Ytblijgcfelnlmaa.P07
/- The document's parser (layer 7): class. -/
namespace Go.Proofs.Ytblijgcfelnlmaa.P07
open Go.RowKit Go.Proofs.Ytblijgcfelnlmaa.Base Go.Proofs.Ytblijgcfelnlmaa.IL Go.Proofs.Ytblijgcfelnlmaa.Bytes Go.Proofs.Ytblijgcfelnlmaa.RSet
open Go.Proofs.Ytblijgcfelnlmaa.Sets (ST)

/-- What is known of a round's range. -/
structure InGood (l : List UInt8) (RA : List Nat) (RS : PS) (f : Nat) (acc : List Nat) (lo hi : Int) (s : PS) : Prop where
  eq : setP f (acc ++ upto lo hi) l s = (RA, RS)
  lt : ∀ x ∈ acc, x < 256
  pos : s.bad = none → s.pos ≤ l.length ∧ acc.length + 256 ≤ 256 * s.pos ∧ l.length + 2 ≤ s.pos + f
  near : s.pos ≤ l.length ∧ acc.length + 256 ≤ 256 * (l.length + 1)
  lo : 0 ≤ lo ∧ lo ≤ 255
  hi : 0 ≤ hi ∧ hi ≤ 255

end Go.Proofs.Ytblijgcfelnlmaa.P07
/- The document's parser (layer 7): atom. -/
namespace Go.Proofs.Ytblijgcfelnlmaa.P07
open Go.RowKit Go.Proofs.Ytblijgcfelnlmaa.Base Go.Proofs.Ytblijgcfelnlmaa.IL Go.Proofs.Ytblijgcfelnlmaa.Bytes Go.Proofs.Ytblijgcfelnlmaa.RSet
open Go.Proofs.Ytblijgcfelnlmaa.Sets (ST)

theorem zs_zero : zS.x0 = 0 ∧ zS.x1 = 0 ∧ zS.x2 = 0 ∧ zS.x3 = 0 := by decide

theorem fresh_row (w : World) (x : Int) : IL (w.alloc (.cells #[.int .i64 x] 3)) (.slice (some ⟨w.heap.size, 0, none⟩) 1 1) [x] := by
  refine ⟨rfl, .inr ⟨w.heap.size, 1, #[.int .i64 x], rfl, ?_, At.new w _ _, ?_, ?_, ?_, ?_⟩⟩ <;> simp [maxLen]

end Go.Proofs.Ytblijgcfelnlmaa.P07
/- The document's parser (layer 7): atom. -/
namespace Go.Proofs.Ytblijgcfelnlmaa.P07
open Go.RowKit Go.Proofs.Ytblijgcfelnlmaa.Base Go.Proofs.Ytblijgcfelnlmaa.IL Go.Proofs.Ytblijgcfelnlmaa.Bytes
open Go.Proofs.Ytblijgcfelnlmaa.Sets (ST)

end Go.Proofs.Ytblijgcfelnlmaa.P07
/- The document's parser (layer 7): item. -/
namespace Go.Proofs.Ytblijgcfelnlmaa.P07
open Go.RowKit Go.Proofs.Ytblijgcfelnlmaa.Base Go.Proofs.Ytblijgcfelnlmaa.IL Go.Proofs.Ytblijgcfelnlmaa.Bytes
open Go.Proofs.Ytblijgcfelnlmaa.Sets (ST)

theorem Lie.under {w : World} {ok : Nat → Prop} {a : Option Addr} {M : List T} (h : Lie w ok a M) : Lie w (fun k => ok k ∧ k < w.heap.size) a M := by
  induction h with
  | nil a => exact .nil a
  | cons bl off L A C hL hb hok hC hc _ ih => exact .cons bl off L A C hL hb ⟨hok, hb⟩ hC hc ih

def sgs : List UInt8 := [42, 43, 63, 123]

end Go.Proofs.Ytblijgcfelnlmaa.P07
/- The document's parser (layer 7): item with a sign. -/
namespace Go.Proofs.Ytblijgcfelnlmaa.P07
open Go.RowKit Go.Proofs.Ytblijgcfelnlmaa.Base Go.Proofs.Ytblijgcfelnlmaa.IL Go.Proofs.Ytblijgcfelnlmaa.Bytes
open Go.Proofs.Ytblijgcfelnlmaa.Sets (ST)

@[reducible] def rcells (mn mx : Int) (n4 : Nat) : Array Value := #[.int .i64 5, .int .u64 0, .int .u64 0, .int .u64 0, .int .u64 0, .int .i64 mn, .int .i64 mx, .slice (some ⟨n4, 0, none⟩) 1 1]
end Go.Proofs.Ytblijgcfelnlmaa.P07
/- The document's parser (layer 7): item with braces. -/
namespace Go.Proofs.Ytblijgcfelnlmaa.P07
open Go.RowKit Go.Proofs.Ytblijgcfelnlmaa.Base Go.Proofs.Ytblijgcfelnlmaa.IL Go.Proofs.Ytblijgcfelnlmaa.Bytes
open Go.Proofs.Ytblijgcfelnlmaa.Sets (ST)

theorem sgs_no {c : Int} (h1 : c ≠ 42) (h2 : c ≠ 43) (h3 : c ≠ 63) (h4 : c ≠ 123) : inL sgs c = false := by
  refine inL_no (fun k hk => ?_)
  have h : k < 4 := hk
  have e : k = 0 ∨ k = 1 ∨ k = 2 ∨ k = 3 := by omega
  rcases e with rfl | rfl | rfl | rfl
  · rw [show (byteAt sgs 0 : Int) = 42 from by decide]; exact Ne.symm h1
  · rw [show (byteAt sgs 1 : Int) = 43 from by decide]; exact Ne.symm h2
  · rw [show (byteAt sgs 2 : Int) = 63 from by decide]; exact Ne.symm h3
  · rw [show (byteAt sgs 3 : Int) = 123 from by decide]; exact Ne.symm h4

end Go.Proofs.Ytblijgcfelnlmaa.P07
/- The document's parser (layer 7): cat. -/
namespace Go.Proofs.Ytblijgcfelnlmaa.P07
open Go.RowKit Go.Proofs.Ytblijgcfelnlmaa.Base Go.Proofs.Ytblijgcfelnlmaa.IL Go.Proofs.Ytblijgcfelnlmaa.Bytes
open Go.Proofs.Ytblijgcfelnlmaa.Sets (ST)

theorem OT.lt {w : World} {ok : Nat → Prop} {v : Value} {L : List T} (h : OT w ok v L) {g : Nat} (hg : v.ownBlock = some g) : g < w.heap.size ∧ ok g := by
  obtain ⟨X, ⟨h1, h2, _⟩, _⟩ := h
  refine ⟨?_, h2 g hg⟩
  rcases h1.2 with ⟨rfl, _⟩ | ⟨g', cap, cur, rfl, _, h3, _⟩
  · cases hg
  · cases hg
    exact (Array.getElem?_eq_some_iff.1 h3).1

end Go.Proofs.Ytblijgcfelnlmaa.P07
/- The document's parser (layer 7): alt. -/
namespace Go.Proofs.Ytblijgcfelnlmaa.P07
open Go.RowKit Go.Proofs.Ytblijgcfelnlmaa.Base Go.Proofs.Ytblijgcfelnlmaa.IL Go.Proofs.Ytblijgcfelnlmaa.Bytes
open Go.Proofs.Ytblijgcfelnlmaa.Sets (ST)

theorem OT.one (w : World) (ok : Nat → Prop) (t : T) (a : Option Addr) (c : Nat) (hc : t.subs.length ≤ c) (hl : Lie w ok a t.subs) (hok : ok w.heap.size) :
    OT (w.alloc (.cells (ncells t a c) 27)) ok (.slice (some ⟨w.heap.size, 0, none⟩) 1 1) [t] := by
  refine ⟨[(t, a, c)], ⟨⟨rfl, .inr ⟨w.heap.size, 1, ncells t a c, rfl, ?_, At.new w _ _, ?_, ?_, ?_, ?_⟩⟩, fun g hg => ?_, fun x hx => ?_⟩, rfl⟩
  · simp
  · simp
  · simp [maxLen]
  · simp
  · simp
  · injection hg with hg
    rw [← hg]
    exact hok
  · rw [List.mem_singleton.1 hx]
    refine ⟨hc, ((hl.under).keepF ((Keep.refl (fun _ => False) w).alloc (.cells (ncells t a c) 27))).mono (fun k hk => ⟨hk.1, fun e => ?_⟩)⟩
    have e' : some w.heap.size = some k := e
    injection e' with e'
    have : k < w.heap.size := hk.2
    omega

end Go.Proofs.Ytblijgcfelnlmaa.P07
