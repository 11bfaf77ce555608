/- A map from numbers to maps of numbers, as ArenaFresh keeps it: its parts, and what each operation on it does. -/
import Derived.Test.YtklknkeanmjhnaaLaw02Kit
import Derived.Test.YtklknkeanmjhnaaSeen
import Derived.Maps.RangeWalk
namespace Go.Proofs.Ytklknkeanmjhnaa.ArenaFresh
open Go.RowKit Go.Maps Go.ChangeMaps Go.MapKept Go.Proofs.Ytklknkeanmjhnaa.Base Go.Proofs.Ytklknkeanmjhnaa.Arena Go.Proofs.Ytklknkeanmjhnaa.Stretch Go.Proofs.Ytklknkeanmjhnaa.Regs Go.Proofs.Ytklknkeanmjhnaa.Law02

def intR : Value → Option (DataW Unit × List MemPlace)
  | .int .i64 n => some (.lit (.int .i64 n), [])
  | _ => none

theorem intR_inv {v : Value} {n : Int} {ps : List MemPlace} (h : intR v = some (.lit (.int .i64 n), ps)) : v = .int .i64 n := by
  unfold intR at h
  split at h
  · simp at h
    rw [h.1]
  · cases h

def outR : Value → Option (DataW Unit × List MemPlace)
  | .map (some b) => some (.lit (.int .i64 b), [])
  | .map none => some (.lit (.int .i64 (-1)), [])
  | _ => none

theorem outR_map {v : Value} {y : DataW Unit × List MemPlace} (h : outR v = some y) : ∃ c : Option Nat, v = .map c := by
  unfold outR at h
  split at h
  · exact ⟨_, rfl⟩
  · exact ⟨_, rfl⟩
  · cases h

theorem outR_inv {c : Option Nat} {n : Nat} {ps : List MemPlace} (h : outR (.map c) = some (.lit (.int .i64 n), ps)) : c = some n := by
  cases c with
  | none => simp [outR] at h
  | some b => simp [outR] at h; rw [show b = n from by omega]

theorem zeroI2 (w : World) : (zeroValue 3).run Try.prog w = .ok (.int .i64 0) w := by kernel_rfl
theorem zeroM (w : World) : (zeroValue 53).run Try.prog w = .ok (.map none) w := by kernel_rfl

/-- Block b holds a map that reads as f; it was written k times at most. -/
def MI (w : World) (b k : Nat) (f : Int → Int) : Prop := ∃ D : DataW Unit, w.ownsMap Try.prog 3 intR b k D ∧ ∀ x : Int, D.atKey (.int .i64 x) (.lit (.int .i64 0)) = .lit (.int .i64 (f x))

theorem MI.keep {S : Nat → Prop} {w w' : World} {b k : Nat} {f : Int → Int} (h : MI w b k f) (q : Keep S w w') (hn : ¬ S b) : MI w' b k f := by
  obtain ⟨D, h2, r⟩ := h
  refine ⟨D, ?_, r⟩
  have hlt := World.ownsMap.lt h2
  obtain ⟨es, clock, hb, r⟩ := h2
  exact ⟨es, clock, (q.block b hlt hn).trans hb, r⟩

theorem MI.congr {w : World} {b k : Nat} {f g : Int → Int} (h : MI w b k f) (e : ∀ x, g x = f x) : MI w b k g := by
  obtain ⟨D, h2, r⟩ := h
  exact ⟨D, h2, fun x => by rw [r x, e x]⟩

theorem MI.mono {w : World} {b k k' : Nat} {f : Int → Int} (h : MI w b k f) (e : k ≤ k') : MI w b k' f := by
  obtain ⟨D, h2, r⟩ := h
  exact ⟨D, World.ownsMap.mono h2 e, r⟩

theorem MI.lt {w : World} {b k : Nat} {f : Int → Int} (h : MI w b k f) : b < w.heap.size := by
  obtain ⟨D, h2, r⟩ := h
  exact World.ownsMap.lt h2

theorem MI.new (w : World) : MI (w.alloc (.map #[] 0)) w.heap.size 0 (fun _ => 0) := ⟨.map [], World.ownsMap_made w _ _ _, fun _ => rfl⟩

theorem MI.look {w : World} {b k : Nat} {f : Int → Int} (h : MI w b k f) {x : Int} (h1 : -9223372036854775808 ≤ x) (h2 : x ≤ 9223372036854775807) :
    (Instr.lookup 53 (.map (some b)) (.int .i64 x) false).run Try.prog w = .ok (.int .i64 (f x)) w := by
  obtain ⟨D, hm, ha⟩ := h
  obtain ⟨v, ps, hrun, hv⟩ := World.ownsMap.lookup hm Seen.law Try.underlying53 (zeroI2 w) (show intR (.int .i64 0) = some (.lit (.int .i64 0), []) from rfl) (Seen.keyOf_id h1 h2)
  rw [ha] at hv
  rw [hrun, intR_inv hv]

theorem MI.put {w : World} {b k : Nat} {f : Int → Int} (h : MI w b k f) {x : Int} (v : Int) (h1 : -9223372036854775808 ≤ x) (h2 : x ≤ 9223372036854775807) (hk : k < maxLen) :
    ∃ w', (Instr.mapUpdate 53 (.map (some b)) (.int .i64 x) (.int .i64 v)).run Try.prog w = .ok () w' ∧ MI w' b (k + 1) (fun y => if y = x then v else f y) ∧ Keep (· = b) w w' := by
  obtain ⟨D, hm, ha⟩ := h
  obtain ⟨w', hrun, hown, hg⟩ := World.ownsMap.update hm Seen.law Try.underlying53 hk (Seen.keyOf_id h1 h2) (show intR (.int .i64 v) = some (.lit (.int .i64 v), []) from rfl)
  refine ⟨w', hrun, ⟨_, hown, fun y => ?_⟩, Seen.keep_grown hg⟩
  by_cases e : y = x
  · subst e
    rw [atKey_put_same (World.ownsMap.isMap hm) (show WideAt.IsKeyLit (.int .i64 y) from trivial)]
    simp
  · rw [atKey_put_other (by simpa using e), ha]
    simp [e]

/-- Block b holds the outer map: the numbers that are in it, and each one's block. -/
structure MO2 (w : World) (b k : Nat) (L : List Reg) (hb : Nat → Nat) (D : DataW Unit) : Prop where
  own : w.ownsMap Try.prog 3 outR b k D
  has : ∀ x : Int, Maps.has D (.int .i64 x) = (Regs.look L x).isSome
  at_ : ∀ r ∈ L, ∀ z, D.atKey (.int .i64 r.id) z = .lit (.int .i64 (hb r.id))

theorem MO2.keep {S : Nat → Prop} {w w' : World} {b k : Nat} {L : List Reg} {hb : Nat → Nat} {D : DataW Unit} (h : MO2 w b k L hb D) (q : Keep S w w') (hn : ¬ S b) : MO2 w' b k L hb D := by
  refine ⟨?_, h.has, h.at_⟩
  have hlt := World.ownsMap.lt h.own
  obtain ⟨es, clock, hb, r⟩ := h.own
  exact ⟨es, clock, (q.block b hlt hn).trans hb, r⟩

theorem MO2.mono {w : World} {b k k' : Nat} {L : List Reg} {hb : Nat → Nat} {D : DataW Unit} (h : MO2 w b k L hb D) (e : k ≤ k') : MO2 w b k' L hb D := ⟨World.ownsMap.mono h.own e, h.has, h.at_⟩

theorem MO2.new (w : World) (hb : Nat → Nat) : MO2 (w.alloc (.map #[] 0)) w.heap.size 0 [] hb (.map []) := ⟨World.ownsMap_made w _ _ _, fun _ => rfl, fun r hr => by simp at hr⟩

theorem MO2.look {w : World} {b k : Nat} {L : List Reg} {hb : Nat → Nat} {D : DataW Unit} (h : MO2 w b k L hb D) {r : Reg} (hr : r ∈ L) (h2 : r.id ≤ 9223372036854775807) :
    (Instr.lookup 52 (.map (some b)) (.int .i64 r.id) false).run Try.prog w = .ok (.map (some (hb r.id))) w := by
  obtain ⟨v, ps, hrun, hv⟩ := World.ownsMap.lookup h.own Seen.law Try.underlying52 (zeroM w) (show outR (.map none) = some (.lit (.int .i64 (-1)), []) from rfl) (Seen.keyOf_id (id := r.id) (by omega) (by omega))
  rw [h.at_ r hr] at hv
  obtain ⟨c, rfl⟩ := outR_map hv
  rw [hrun, outR_inv hv]

/-- A number more. -/
theorem MO2.add {w : World} {b k : Nat} {L : List Reg} {hb : Nat → Nat} {D : DataW Unit} (h : MO2 w b k L hb D) (r : Reg) (ib : Nat) (hr : ∀ x ∈ L, x.id < r.id) (h2 : r.id ≤ 9223372036854775807) (hk : k < maxLen) :
    ∃ w' D', (Instr.mapUpdate 52 (.map (some b)) (.int .i64 r.id) (.map (some ib))).run Try.prog w = .ok () w' ∧ MO2 w' b (k + 1) (L ++ [r]) (fun i => if i = r.id then ib else hb i) D' ∧ Keep (· = b) w w' := by
  obtain ⟨w', hrun, hown, hg⟩ := World.ownsMap.update h.own Seen.law Try.underlying52 hk (Seen.keyOf_id (id := r.id) (by omega) (by omega)) (show outR (.map (some ib)) = some (.lit (.int .i64 ib), []) from rfl)
  refine ⟨w', _, hrun, ⟨hown, fun x => ?_, fun x hx z => ?_⟩, Seen.keep_grown hg⟩
  · unfold Regs.look
    rw [List.find?_append]
    by_cases e : x = r.id
    · subst e
      rw [has_put_same (World.ownsMap.isMap h.own) (show WideAt.IsKeyLit (.int .i64 r.id) from trivial)]
      simp
    · rw [has_put_other (by simpa using e), h.has]
      have : decide ((r.id : Int) = x) = false := by simp; omega
      unfold Regs.look
      simp [this]
  · rcases List.mem_append.1 hx with hx | hx
    · have := hr x hx
      rw [atKey_put_other (by simp; omega), h.at_ x hx, if_neg (by omega)]
    · simp at hx
      subst hx
      rw [atKey_put_same (World.ownsMap.isMap h.own) (show WideAt.IsKeyLit (.int .i64 x.id) from trivial), if_pos rfl]

/-- A number less. -/
theorem MO2.del {w : World} {b k : Nat} {L : List Reg} {hb : Nat → Nat} {D : DataW Unit} (h : MO2 w b k L hb D) (r : Reg) (h2 : r.id ≤ 9223372036854775807) (ty : TypeId) :
    ∃ w' D', (Builtin.delete_ #[52, 3] ty #[.map (some b), .int .i64 r.id]).run Try.prog w = .ok (.tuple #[]) w' ∧ MO2 w' b k (L.filter fun x => !decide ((x.id : Int) = r.id)) hb D' ∧ Keep (· = b) w w' := by
  obtain ⟨w', hrun, hown, hg⟩ := World.ownsMap.drop h.own Seen.law Try.underlying52 (Seen.keyOf_id (id := r.id) (by omega) (by omega)) ty
  refine ⟨w', _, hrun, ⟨hown, fun x => ?_, fun x hx z => ?_⟩, Seen.keep_grown hg.grown⟩
  · by_cases e : x = r.id
    · subst e
      rw [has_del_same]
      symm
      unfold Regs.look
      rw [Option.isSome_eq_false_iff, Option.isNone_iff_eq_none, List.find?_eq_none]
      intro y hy
      simpa using (List.mem_filter.1 hy).2
    · rw [has_del_other (by simpa using e), h.has]
      unfold Regs.look
      rw [List.find?_filter]
      refine congrArg (fun f => (List.find? f L).isSome) ?_
      funext y
      by_cases e2 : (y.id : Int) = x
      · have : ¬ (y.id : Int) = r.id := by omega
        simp [e2]
        omega
      · simp [e2]
  · obtain ⟨hx1, hx2⟩ := List.mem_filter.1 hx
    have hx3 : ¬ (x.id : Int) = r.id := by simpa using hx2
    rw [atKey_del_other (by simp; omega), h.at_ x hx1]

end Go.Proofs.Ytklknkeanmjhnaa.ArenaFresh
