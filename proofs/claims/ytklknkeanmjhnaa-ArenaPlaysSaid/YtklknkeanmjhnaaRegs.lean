/- The regions of an arena as a plain list, and what it means that a map in memory holds them. -/
import Derived.Test.YtklknkeanmjhnaaBase
import Derived.Test.YtklknkeanmjhnaaChecked
import Derived.Maps.OwnSet
import Derived.Maps.OwnOps
namespace Go.Proofs.Ytklknkeanmjhnaa.Regs
open Go.RowKit Go.Maps Go.ChangeMaps Go.MapKept Go.Proofs.Ytklknkeanmjhnaa.Base

structure Reg where
  id : Nat
  base : Nat
  n : Nat

def regVal (b n : Int) : Value := .agg #[.int .i64 b, .int .i64 n]

/-- How a region in the map reads. -/
def regR : Value → Option (DataW Unit × List MemPlace)
  | .agg cs => match cs.toList with
    | [.int .i64 b, .int .i64 n] => some (.agg [.lit (.int .i64 b), .lit (.int .i64 n)], [])
    | _ => none
  | _ => none

def regD (b n : Int) : DataW Unit := .agg [.lit (.int .i64 b), .lit (.int .i64 n)]

theorem regR_mk (b n : Int) : regR (regVal b n) = some (regD b n, []) := rfl

theorem regR_inv {v : Value} {b n : Int} {ps : List MemPlace} (h : regR v = some (regD b n, ps)) : v = regVal b n := by
  cases v with
  | agg cs =>
    simp only [regR] at h
    split at h
    · rename_i b' n' hc
      simp only [regD, Option.some.injEq, Prod.mk.injEq, DataW.agg.injEq, List.cons.injEq, DataW.lit.injEq, Lit.int.injEq, true_and, and_true] at h
      obtain ⟨⟨rfl, rfl⟩, -⟩ := h
      rw [regVal, ← hc]
    · cases h
  | _ => simp [regR] at h

def entry (r : Reg) : Lit × DataW Unit := (.int .i64 r.id, regD r.base r.n)
def DL (L : List Reg) : DataW Unit := .map (L.map entry)

/-- The region of a number. -/
def look (L : List Reg) (id : Int) : Option Reg := L.find? fun r => decide ((r.id : Int) = id)

theorem same_entry (r : Reg) (id : Int) : (entry r).1.sameKey (.int .i64 id) = decide ((r.id : Int) = id) := by simp [entry, Lit.sameKey]

theorem has_DL (L : List Reg) (id : Int) : Maps.has (DL L) (.int .i64 id) = (look L id).isSome := by
  rw [DL, Maps.has_eq, List.any_map, look]
  induction L with
  | nil => rfl
  | cons r L ih =>
    simp only [List.any_cons, Function.comp, same_entry, List.find?_cons]
    by_cases h : (r.id : Int) = id
    · simp [h]
    · simpa [h, Function.comp, same_entry] using ih

theorem at_DL (L : List Reg) (id : Int) (z : DataW Unit) : (DL L).atKey (.int .i64 id) z = match look L id with | some r => regD r.base r.n | none => z := by
  simp only [DL, DataW.atKey, look]
  induction L with
  | nil => rfl
  | cons r L ih =>
    simp only [List.map_cons, List.find?_cons, same_entry]
    by_cases h : (r.id : Int) = id
    · simp [h, entry]
    · simpa [h] using ih

theorem insert_last (x : Lit × DataW Unit) : ∀ es : List (Lit × DataW Unit), (∀ e ∈ es, x.1.before e.1 = false) → DataW.insert x es = es ++ [x]
  | [], _ => rfl
  | e :: es, h => by
    rw [DataW.insert, h e (by simp)]
    simp [insert_last x es fun e' he => h e' (by simp [he])]

theorem put_DL (L : List Reg) (r : Reg) (h : ∀ x ∈ L, x.id < r.id) : (DL L).put (.int .i64 r.id) (regD r.base r.n) = DL (L ++ [r]) := by
  simp only [DL, DataW.put]
  have e1 : (L.map entry).filter (fun p => !p.1.sameKey (.int .i64 r.id)) = L.map entry := by
    rw [List.filter_eq_self]
    intro p hp
    obtain ⟨x, hx, rfl⟩ := List.mem_map.1 hp
    have := h x hx
    rw [same_entry]
    simp
    omega
  rw [e1, insert_last]
  · simp [entry]
  · intro e he
    obtain ⟨x, hx, rfl⟩ := List.mem_map.1 he
    have := h x hx
    simp [entry, Lit.before]
    omega

theorem del_DL (L : List Reg) (id : Int) : (DL L).del (.int .i64 id) = DL (L.filter fun r => !decide ((r.id : Int) = id)) := by
  simp only [DL, DataW.del, List.filter_map]
  congr 3
  funext r
  simp [Function.comp, same_entry]

theorem size_DL (L : List Reg) : Maps.size (DL L) = L.length := by simp [DL, Maps.size_eq]

theorem law : Keyed Try.prog 3 := int_keyed Try.underlying3
theorem keyOf_id {id : Int} (h1 : -9223372036854775808 ≤ id) (h2 : id ≤ 9223372036854775807) : keyOf Try.prog 3 (.int .i64 id) = some (.int .i64 id) := keyOf_int_mk Try.underlying3 (WalkArith.wf_i64 ⟨h1, h2⟩)
theorem zeroR (w : World) : (zeroValue 89).run Try.prog w = .ok (regVal 0 0) w := by kernel_rfl

/-- Block b holds the regions of L. -/
def RM (w : World) (b : Nat) (L : List Reg) : Prop := w.ownsMap Try.prog 3 regR b L.length (DL L)

theorem RM.of {w : World} {b n : Nat} {L : List Reg} (h : w.ownsMap Try.prog 3 regR b n (DL L)) : RM w b L := by
  obtain ⟨es, clock, hb, F, _, hD⟩ := h
  refine ⟨es, clock, hb, F, ?_, hD⟩
  have e1 := congrArg Maps.size hD
  rw [size_DL, Maps.size_eq, Go.length_sorted] at e1
  simp at e1
  omega

theorem RM.keep {S : Nat → Prop} {w w' : World} {b : Nat} {L : List Reg} (h : RM w b L) (q : Keep S w w') (hn : ¬ S b) : RM w' b L := by
  have hlt := World.ownsMap.lt h
  obtain ⟨es, clock, hb, r⟩ := h
  exact ⟨es, clock, (q.block b hlt hn).trans hb, r⟩

theorem RM.lt {w : World} {b : Nat} {L : List Reg} (h : RM w b L) : b < w.heap.size := World.ownsMap.lt h

/-- A block that holds a map holds no cells. -/
theorem RM.ne {w : World} {b c : Nat} {L : List Reg} {t : TypeId} {vs : Array Value} (h : RM w b L) (k : At w c t vs) : b ≠ c := by
  rintro rfl
  obtain ⟨es, clock, hb, _⟩ := h
  rw [show w.heap[b]? = _ from k] at hb
  cases hb

theorem RM.look_ok {w : World} {b : Nat} {L : List Reg} (h : RM w b L) {id : Int} (h1 : -9223372036854775808 ≤ id) (h2 : id ≤ 9223372036854775807) :
    (Instr.lookup 81 (.map (some b)) (.int .i64 id) true).run Try.prog w =
      .ok (.tuple #[match look L id with | some r => regVal r.base r.n | none => regVal 0 0, .bool (look L id).isSome]) w := by
  obtain ⟨v, ps, hrun, hv⟩ := World.ownsMap.look_ok h law Try.underlying81 (zeroR w) (regR_mk 0 0) (keyOf_id h1 h2)
  rw [at_DL] at hv
  rw [has_DL] at hrun
  rw [hrun]
  cases e : look L id with
  | none => rw [e] at hv; rw [regR_inv hv]
  | some r => rw [e] at hv; rw [regR_inv hv]

theorem RM.look {w : World} {b : Nat} {L : List Reg} (h : RM w b L) {id : Int} (h1 : -9223372036854775808 ≤ id) (h2 : id ≤ 9223372036854775807) :
    (Instr.lookup 81 (.map (some b)) (.int .i64 id) false).run Try.prog w =
      .ok (match Regs.look L id with | some r => regVal r.base r.n | none => regVal 0 0) w := by
  obtain ⟨v, ps, hrun, hv⟩ := World.ownsMap.lookup h law Try.underlying81 (zeroR w) (regR_mk 0 0) (keyOf_id h1 h2)
  rw [at_DL] at hv
  rw [hrun]
  cases e : Regs.look L id with
  | none => rw [e] at hv; rw [regR_inv hv]
  | some r => rw [e] at hv; rw [regR_inv hv]

theorem keep_grown {w w' : World} {b : Nat} (h : w.grownBy w' (some b)) : Keep (· = b) w w' :=
  ⟨h.os, h.tape, h.output, h.size, fun k hk hn => h.block k hk (by simpa using hn)⟩

/-- A region more. -/
theorem RM.add {w : World} {b : Nat} {L : List Reg} (h : RM w b L) (r : Reg) (hr : ∀ x ∈ L, x.id < r.id) (hid : r.id ≤ 9223372036854775807) (hL : L.length < maxLen) :
    ∃ w', (Instr.mapUpdate 81 (.map (some b)) (.int .i64 r.id) (regVal r.base r.n)).run Try.prog w = .ok () w' ∧ RM w' b (L ++ [r]) ∧ Keep (· = b) w w' := by
  obtain ⟨w', hrun, hown, hg⟩ := World.ownsMap.update h law Try.underlying81 hL (keyOf_id (id := r.id) (by omega) (by omega)) (regR_mk r.base r.n)
  rw [put_DL L r hr] at hown
  exact ⟨w', hrun, RM.of hown, keep_grown hg⟩

/-- A region less. -/
theorem RM.del {w : World} {b : Nat} {L : List Reg} (h : RM w b L) {id : Int} (h1 : -9223372036854775808 ≤ id) (h2 : id ≤ 9223372036854775807) (ty : TypeId) :
    ∃ w', (Builtin.delete_ #[81, 3] ty #[.map (some b), .int .i64 id]).run Try.prog w = .ok (.tuple #[]) w' ∧ RM w' b (L.filter fun r => !decide ((r.id : Int) = id)) ∧ Keep (· = b) w w' := by
  obtain ⟨w', hrun, hown, hg⟩ := World.ownsMap.drop h law Try.underlying81 (keyOf_id h1 h2) ty
  rw [del_DL] at hown
  exact ⟨w', hrun, RM.of hown, keep_grown hg.grown⟩

/-- No region any more. -/
theorem RM.clear {w : World} {b : Nat} {L : List Reg} (h : RM w b L) (ty : TypeId) :
    ∃ w', (Builtin.clear_ #[81] ty #[.map (some b)]).run Try.prog w = .ok (.tuple #[]) w' ∧ RM w' b [] ∧ Keep (· = b) w w' := by
  obtain ⟨es, clock, hb, F, _, _⟩ := h
  have hlt := (Array.getElem?_eq_some_iff.1 hb).1
  refine ⟨setBlock w b (.map #[] clock), ?_, ⟨#[], clock, heap_setBlock_same hb _, ⟨by simp, MapKept.stamped_empty clock, by simp⟩, Nat.le_refl _, rfl⟩, ?_⟩
  · simp [Builtin.clear_, run_underlying Try.underlying81, MapKept.run_getObj_map hb, MapKept.run_setObj_map _ hb, Result.andThen]
    rfl
  · exact ⟨rfl, rfl, rfl, by simp [setBlock], fun k _ hn => heap_setBlock_other hb _ (fun e => hn e)⟩

theorem RM.new (w : World) : RM (w.alloc (.map #[] 0)) w.heap.size [] := World.ownsMap_made w _ _ _

end Go.Proofs.Ytklknkeanmjhnaa.Regs
