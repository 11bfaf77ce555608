/- Same of two expressions (layer 7): the document's own, by structure. -/
import Derived.Test.YtblijgcfelnlmaaKK15
import Derived.Laws.StructEq
import Derived.Laws.Tables
import Derived.Deep.RegionHeld3
namespace Go.Proofs.Ytblijgcfelnlmaa.Bytes
open Go.RowKit Go.Proofs.Ytblijgcfelnlmaa.Base Go.Proofs.Ytblijgcfelnlmaa.Sets

theorem eq_set4 (a0 a1 a2 a3 b0 b1 b2 b3 : Int) (w : World) : (Op.equalIn 10000 24 (.agg #[.int .u64 a0, .int .u64 a1, .int .u64 a2, .int .u64 a3]) (.agg #[.int .u64 b0, .int .u64 b1, .int .u64 b2, .int .u64 b3])).run Try.prog w = .ok (a0 == b0 && (a1 == b1 && (a2 == b2 && a3 == b3))) w := by
  have u3 := Try.underlying22
  have a3' := Try.isAgg22
  have z3 := Try.sizeOf22
  rw [show (10000 : Nat) = 9999 + 1 from rfl, Op.equalIn]
  simp only [Sem.run_bind, run_underlying Try.underlying24, Result.andThen_ok]
  simp only [Std.Legacy.Range.forIn_eq_forIn_range', Std.Legacy.Range.size, Nat.sub_zero, Nat.add_sub_cancel, Nat.div_one, List.range'_succ, List.range'_zero, List.forIn_cons, List.forIn_nil]
  go_simp
  by_cases h1 : a0 = b0 <;> by_cases h2 : a1 = b1 <;> by_cases h3 : a2 = b2 <;> by_cases h4 : a3 = b3 <;> simp [h1, h2, h3, h4]

/-- Are two sets one? -/
def eqB (s t : ST) : Bool := (s.x0 : Int) == t.x0 && ((s.x1 : Int) == t.x1 && ((s.x2 : Int) == t.x2 && (s.x3 : Int) == t.x3))

theorem eqB_iff {s t : ST} : eqB s t = true ↔ s = t := by
  obtain ⟨a0, a1, a2, a3⟩ := s
  obtain ⟨b0, b1, b2, b3⟩ := t
  unfold eqB
  simp only [Bool.and_eq_true, beq_iff_eq, ST.mk.injEq]
  omega

theorem eqB_refl (s : ST) : eqB s s = true := eqB_iff.2 rfl
theorem eqB_ne {s t : ST} (h : s ≠ t) : eqB s t = false := by
  cases e : eqB s t
  · rfl
  · exact absurd (eqB_iff.1 e) h

theorem eq_set (s t : ST) (w : World) : (Op.equalIn 10000 24 (val s) (val t)).run Try.prog w = .ok (eqB s t) w := eq_set4 _ _ _ _ _ _ _ _ w
theorem eq_yes {s t : ST} (h : s = t) (w : World) : (Op.equalIn 10000 24 (val s) (val t)).run Try.prog w = .ok true w := by
  rw [eq_set, eqB_iff.2 h]
theorem eq_no {s t : ST} (h : s ≠ t) (w : World) : (Op.equalIn 10000 24 (val s) (val t)).run Try.prog w = .ok false w := by
  rw [eq_set, eqB_ne h]
end Go.Proofs.Ytblijgcfelnlmaa.Bytes
namespace Go.Proofs.Ytblijgcfelnlmaa.P07
open Go.RowKit Go.Proofs.Ytblijgcfelnlmaa.Base Go.Proofs.Ytblijgcfelnlmaa.IL Go.Proofs.Ytblijgcfelnlmaa.Bytes
open Go.Proofs.Ytblijgcfelnlmaa.Sets (ST)

theorem T.ext {a b : T} (h1 : a.kind = b.kind) (h2 : a.set = b.set) (h3 : a.mn = b.mn) (h4 : a.mx = b.mx) (h5 : a.subs = b.subs) : a = b := by
  cases a
  cases b
  unfold T.kind T.set T.mn T.mx T.subs at *
  dsimp only at *
  subst h1 h2 h3 h4 h5
  rfl
theorem sub_less {a t : T} {i : Nat} (h : a.subs[i]? = some t) : SizeOf.sizeOf t < SizeOf.sizeOf a := by
  cases a with
  | nd k s m x l =>
    have h1 := List.sizeOf_lt_of_mem (List.mem_of_getElem? h)
    have e : (T.nd k s m x l).subs = l := rfl
    rw [e] at h1
    simp
    omega

/-- The cells of a node, one by one. -/
theorem ncell {w : World} {bl o : Nat} {t : T} {a : Option Addr} {c : Nat} (h : ∀ j v, (ncells t a c)[j]? = some v → w.cell? ⟨bl, o + j, none⟩ = some v) :
    w.cell? ⟨bl, o, none⟩ = some (.int .i64 t.kind) ∧ w.cell? ⟨bl, o + 1, none⟩ = some (.int .u64 t.set.x0) ∧ w.cell? ⟨bl, o + 2, none⟩ = some (.int .u64 t.set.x1) ∧ w.cell? ⟨bl, o + 3, none⟩ = some (.int .u64 t.set.x2) ∧ w.cell? ⟨bl, o + 4, none⟩ = some (.int .u64 t.set.x3) ∧ w.cell? ⟨bl, o + 5, none⟩ = some (.int .i64 t.mn) ∧ w.cell? ⟨bl, o + 6, none⟩ = some (.int .i64 t.mx) ∧ w.cell? ⟨bl, o + 7, none⟩ = some (.slice a t.subs.length c) :=
  ⟨h 0 _ rfl, h 1 _ rfl, h 2 _ rfl, h 3 _ rfl, h 4 _ rfl, h 5 _ rfl, h 6 _ rfl, h 7 _ rfl⟩

/-- What Same answers of a and b. -/
def IsSame (a b : T) (w : World) (e : Ending) (w' : World) : Prop := ∃ v : Bool, e = .returned (.bool v) ∧ (v = true ↔ a = b) ∧ Keep (fun _ => False) w w'

end Go.Proofs.Ytblijgcfelnlmaa.P07
/- Depth, Size, Few of an expression (layer 7): the document's own. -/
namespace Go.Proofs.Ytblijgcfelnlmaa.P07
open Go.RowKit Go.Proofs.Ytblijgcfelnlmaa.Base Go.Proofs.Ytblijgcfelnlmaa.IL Go.Proofs.Ytblijgcfelnlmaa.Bytes

mutual
/-- How many nodes there are. -/
def cnt : T → Nat
  | .nd _ _ _ _ l => 1 + cntL l
def cntL : List T → Nat
  | [] => 0
  | t :: l => cnt t + cntL l
end
mutual
/-- How deep it is. -/
def dep : T → Nat
  | .nd _ _ _ _ l => depL l + 1
def depL : List T → Nat
  | [] => 0
  | t :: l => max (dep t) (depL l)
end
mutual
/-- How many nodes there are; above 600 it may be fewer. -/
def sz : T → Nat
  | .nd _ _ _ _ l => szL 1 l
def szL (k : Nat) : List T → Nat
  | [] => k
  | t :: l => if k ≤ 600 then szL (k + sz t) l else k
end

theorem cnt_eq (t : T) : cnt t = 1 + cntL t.subs := by cases t; rw [cnt]; rfl
theorem dep_eq (t : T) : dep t = depL t.subs + 1 := by cases t; rw [dep]; rfl
theorem sz_eq (t : T) : sz t = szL 1 t.subs := by cases t; rw [sz]; rfl
theorem cntL_append : ∀ (L M : List T), cntL (L ++ M) = cntL L + cntL M
  | [], M => by rw [List.nil_append, cntL]; omega
  | t :: L, M => by rw [List.cons_append, cntL, cntL, cntL_append L M]; omega
theorem cntL_le {L : List T} {i : Nat} {t : T} (h : L[i]? = some t) : cnt t ≤ cntL L := by
  obtain ⟨M, N, rfl⟩ := List.append_of_mem (List.mem_of_getElem? h)
  rw [cntL_append, cntL]
  omega
theorem depL_snoc : ∀ (L : List T) (t : T), depL (L ++ [t]) = max (depL L) (dep t)
  | [], t => by simp [depL]
  | s :: L, t => by rw [List.cons_append, depL, depL, depL_snoc L t]; omega
theorem dep_le_cnt : ∀ n (t : T), SizeOf.sizeOf t < n → dep t ≤ cnt t
  | 0, _, h => absurd h (Nat.not_lt_zero _)
  | n + 1, t, h => by
    rw [dep_eq, cnt_eq]
    have key : ∀ L : List T, (∀ s ∈ L, dep s ≤ cnt s) → depL L ≤ cntL L := fun L => by
      induction L with
      | nil => intro _; rw [depL, cntL]; omega
      | cons s L ih =>
        intro hL
        have h1 := hL s (by simp)
        have h2 := ih (fun x hx => hL x (by simp [hx]))
        rw [depL, cntL]
        omega
    have := key t.subs (fun s hs => by
      obtain ⟨i, hi⟩ := List.mem_iff_getElem?.1 hs
      exact dep_le_cnt n s (by have := sub_less hi; omega))
    omega
theorem depL_le (L : List T) : depL L ≤ cntL L := by
  have h1 := dep_le_cnt _ (.nd 0 ⟨0, 0, 0, 0⟩ 0 0 L) (Nat.lt_succ_self _)
  rw [dep, cnt] at h1
  omega

end Go.Proofs.Ytblijgcfelnlmaa.P07
