/- Maps to ints whose keys are addresses (layer 13): the blocks of the addresses hold plain cells that no string shares, so that two addresses are told apart. -/
import Derived.Test.YthcjfgfbeollpaaKG23
import Derived.LaidEqlPtr
import Derived.Maps.OwnSet
namespace Go.Proofs.Ythcjfgfbeollpaa.P13
open Go.RowKit Go.Maps Go.ChangeMaps Go.MapKept Go.ChangeShapes Go.WideShapes Go.Proofs.Ythcjfgfbeollpaa.Base Go.Proofs.Ythcjfgfbeollpaa.P07

theorem okeep_grown {w w' : World} {r : Option Nat} (h : w.grownBy w' r) : Keep (fun b => r = some b) w w' :=
  ⟨h.os, h.tape, h.output, h.size, fun k hk hn => h.block k hk (fun e => hn e.symm)⟩
/-- Block b holds plain cells, none of them frozen. -/
def Zb (w : World) (b : Nat) : Prop := ∃ cs t, w.heap[b]? = some (.cells cs t (0, 0))
theorem Zb.of {w : World} {b : Nat} {t : TypeId} {vs : Array Value} (h : At w b t vs) : Zb w b := ⟨vs, t, h⟩
theorem Zb.lt {w : World} {b : Nat} (h : Zb w b) : b < w.heap.size := by
  obtain ⟨cs, t, h⟩ := h
  exact (Array.getElem?_eq_some_iff.1 h).1
theorem Zb.keep {S : Nat → Prop} {w w' : World} {b : Nat} (h : Zb w b) (q : Keep S w w') (hn : ¬ S b) : Zb w' b := by
  have hb := h.lt
  obtain ⟨cs, t, h⟩ := h
  exact ⟨cs, t, (q.block b hb hn).trans h⟩
theorem Zb.set {w : World} {b : Nat} (h : Zb w b) (bl o : Nat) (u : Value) : Zb (w.setCell ⟨bl, o, none⟩ u) b := by
  obtain ⟨cs, t, h⟩ := h
  have h : At w b t cs := h
  by_cases e : b = bl
  · subst e
    exact Zb.of (h.set o u)
  · exact Zb.of (h.setOther e u)

theorem eq_in {w : World} {a b : Addr} (ha : Zb w a.block) (hb : Zb w b.block) (n : Nat) : (Op.equalIn (n + 1) 79 (.pointer (some a)) (.pointer (some b))).run Try.prog w = .ok (decide (a = b)) w := by
  obtain ⟨i0, hi0, hz0, hz1, hz2⟩ := info_parts infoN
  have hsz : i0.size ≠ 0 := by omega
  by_cases e : a = b
  · subst e
    simp [Op.equalIn, run_underlying (P := Try.prog) Try.underlying79, sizeOf, typeInfo, hi0, run_sameAddr_same]
  · obtain ⟨ca, ta, ha⟩ := ha
    obtain ⟨cb, tb, hb⟩ := hb
    simp [Op.equalIn, run_underlying (P := Try.prog) Try.underlying79, sizeOf, typeInfo, hi0, hsz, run_sameAddr_other w e ha hb, e]
theorem eq_ptr {w : World} {a b : Addr} (ha : Zb w a.block) (hb : Zb w b.block) : (Op.equal 79 (.pointer (some a)) (.pointer (some b))).run Try.prog w = .ok (decide (a = b)) w := eq_in ha hb 9999

/-- An entry: its key is an address, its value a place. -/
def Pe (w : World) (lo N : Nat) (e : MapEntry) : Prop := ∃ a c, e.key = .pointer (some a) ∧ (a.block < lo ∧ Zb w a.block) ∧ e.val = .int .i64 c ∧ 0 ≤ c ∧ c ≤ (N : Int)
/-- The first entry of an address. -/
def fp (a : Addr) : List MapEntry → Nat → Option (Nat × Value)
  | [], _ => none
  | e :: es, i => match e.key with
    | .pointer (some b) => if a = b then some (i, e.val) else fp a es (i + 1)
    | _ => fp a es (i + 1)
theorem fp_some {a : Addr} : ∀ {es : List MapEntry} {i j : Nat} {v : Value}, fp a es i = some (j, v) → ∃ k e, j = i + k ∧ es[k]? = some e ∧ e.key = .pointer (some a) ∧ e.val = v
  | [], _, _, _, h => by cases h
  | e :: es, i, j, v, h => by
    have hrec : fp a es (i + 1) = some (j, v) → ∃ k e', j = i + k ∧ (e :: es)[k]? = some e' ∧ e'.key = .pointer (some a) ∧ e'.val = v := fun h => by
      obtain ⟨k, e', h1, h2, h3⟩ := fp_some h
      exact ⟨k + 1, e', by omega, by simpa using h2, h3⟩
    rw [fp] at h
    split at h
    · rename_i b hb
      split at h
      · rename_i hab
        injection h with h
        injection h with h1 h2
        exact ⟨0, e, by omega, rfl, by rw [hb, hab], h2⟩
      · exact hrec h
    · exact hrec h
theorem find_ask {w : World} {lo N : Nat} {a : Addr} (ha : Zb w a.block) : ∀ (es : List MapEntry) (i : Nat), (∀ e ∈ es, Pe w lo N e) → (Instr.findAsking 79 (.pointer (some a)) es i).run Try.prog w = .ok (fp a es i) w
  | [], i, _ => by simp [Instr.findAsking, fp]
  | e :: es, i, h => by
    obtain ⟨b, c, hk, ⟨-, hb⟩, hv, -, -⟩ := h e (by simp)
    have he := eq_ptr (w := w) ha hb
    have ih := find_ask ha es (i + 1) (fun x hx => h x (List.mem_cons_of_mem _ hx))
    by_cases hab : a = b
    · subst hab
      rw [decide_eq_true rfl] at he
      simp [Instr.findAsking, fp, hk, he]
    · rw [decide_eq_false hab] at he
      simp [Instr.findAsking, fp, hk, he, hab, ih]
theorem find_key {w : World} {lo N : Nat} {a : Addr} (ha : Zb w a.block) (es : List MapEntry) (h : ∀ e ∈ es, Pe w lo N e) : (Instr.findKey 79 (.pointer (some a)) es).run Try.prog w = .ok (fp a es 0) w := by
  rw [← find_ask ha es 0 h]
  cases es with
  | nil => simp [Instr.findKey, run_underlying (P := Try.prog) Try.underlying79, Instr.findNow, Instr.findAsking]
  | cons e es => simp [Instr.findKey, run_underlying (P := Try.prog) Try.underlying79, Instr.findNow, Instr.sameNow]
theorem check_at (w : World) (em : Bool) (n : Nat) (v : Value) : (Instr.checkKey em (n + 1) 79 v).run Try.prog w = .ok () w := by
  simp [Instr.checkKey, run_underlying (P := Try.prog) Try.underlying79]
theorem check_ptr (w : World) (em : Bool) (v : Value) : (Instr.checkKey em 10000 79 v).run Try.prog w = .ok () w := check_at w em 9999 v

/-- Block b holds a map from addresses to places, at most n of them. -/
def PM (w : World) (lo b N n : Nat) : Prop := ∃ es clock, w.heap[b]? = some (.map es clock) ∧ es.size ≤ n ∧ ∀ e ∈ es.toList, Pe w lo N e
theorem PM.lt {w : World} {lo b N n : Nat} (h : PM w lo b N n) : b < w.heap.size := by
  obtain ⟨es, clock, hb, -, -⟩ := h
  exact (Array.getElem?_eq_some_iff.1 hb).1
theorem PM.ne {w : World} {lo b N n c : Nat} {t : TypeId} {vs : Array Value} (h : PM w lo b N n) (hc : At w c t vs) : b ≠ c := by
  rintro rfl
  obtain ⟨es, clock, hb, -, -⟩ := h
  rw [show w.heap[b]? = _ from hc] at hb
  cases hb
theorem PM.zb {w : World} {lo b N n : Nat} (h : PM w lo b N n) : ¬ Zb w b := by
  rintro ⟨cs, t, hc⟩
  obtain ⟨es, clock, hb, -, -⟩ := h
  rw [hc] at hb
  cases hb
theorem PM.mono {w : World} {lo b N n N' n' : Nat} (h : PM w lo b N n) (hN : N ≤ N') (hn : n ≤ n') : PM w lo b N' n' := by
  obtain ⟨es, clock, hb, h1, h2⟩ := h
  refine ⟨es, clock, hb, by omega, fun e he => ?_⟩
  obtain ⟨a, c, k1, k2, k3, k4, k5⟩ := h2 e he
  exact ⟨a, c, k1, k2, k3, k4, by omega⟩
/-- What turns is neither the map nor what its keys point to; or plain cells stay plain cells. -/
theorem PM.turn {w w' : World} {lo b N n : Nat} (h : PM w lo b N n) (hb : w'.heap[b]? = w.heap[b]?) (hz : ∀ k, k < lo → Zb w k → Zb w' k) : PM w' lo b N n := by
  obtain ⟨es, clock, h0, h1, h2⟩ := h
  refine ⟨es, clock, hb.trans h0, h1, fun e he => ?_⟩
  obtain ⟨a, c, k1, k2, k3⟩ := h2 e he
  exact ⟨a, c, k1, ⟨k2.1, hz _ k2.1 k2.2⟩, k3⟩
theorem PM.keepF {w w' : World} {lo b N n : Nat} (h : PM w lo b N n) (q : Keep (fun _ => False) w w') : PM w' lo b N n := h.turn (q.block b h.lt (fun h => h)) fun _ _ hk => hk.keep q (fun h => h)
theorem PM.set {w : World} {lo b N n : Nat} (h : PM w lo b N n) {bl : Nat} (ha : b ≠ bl) (o : Nat) (u : Value) : PM (w.setCell ⟨bl, o, none⟩ u) lo b N n := h.turn (Below.heap_setCell w ⟨bl, o, none⟩ u b ha) fun _ _ hk => hk.set bl o u
theorem PM.new (w : World) (lo N : Nat) : PM (w.alloc (.map #[] 0)) lo w.heap.size N 0 := ⟨#[], 0, (MapKept.heap_alloc w _).1, Nat.le_refl 0, fun e he => by simp at he⟩
/-- 'v, ok := m[k]'. -/
theorem PM.look {w : World} {lo b N n : Nat} (h : PM w lo b N n) {t : TypeId} (ht : Try.prog.underlying t = some (.map 79 3)) {a : Addr} (ha : Zb w a.block) :
    ∃ (c : Int) (B : Bool), (∀ W, Keep (fun _ => False) w W → (Instr.lookup t (.map (some b)) (.pointer (some a)) true).run Try.prog W = .ok (.tuple #[.int .i64 c, .bool B]) W) ∧ 0 ≤ c ∧ c ≤ (N : Int) := by
  obtain ⟨es, clock, hb, h1, h2⟩ := h
  have hlt := (Array.getElem?_eq_some_iff.1 hb).1
  have key : ∀ W, Keep (fun _ => False) w W → W.heap[b]? = some (.map es clock) ∧ Zb W a.block ∧ ∀ e ∈ es.toList, Pe W lo N e := fun W q => by
    refine ⟨(q.block b hlt (fun h => h)).trans hb, ha.keep q (fun h => h), fun e he => ?_⟩
    obtain ⟨a, c, k1, k2, k3⟩ := h2 e he
    exact ⟨a, c, k1, ⟨k2.1, k2.2.keep q (fun h => h)⟩, k3⟩
  cases hf : fp a es.toList 0 with
  | none =>
    refine ⟨0, false, fun W q => ?_, Int.le_refl 0, by omega⟩
    obtain ⟨k1, k2, k3⟩ := key W q
    simp [Instr.lookup, run_underlying ht, MapKept.run_getObj_map k1, check_ptr, find_key k2 es.toList k3, hf]
  | some x =>
    obtain ⟨j, v⟩ := x
    obtain ⟨k, e, -, h4, -, h5⟩ := fp_some hf
    obtain ⟨a', c, -, -, h6, h7, h8⟩ := h2 e (List.mem_of_getElem? h4)
    refine ⟨c, true, fun W q => ?_, h7, h8⟩
    obtain ⟨k1, k2, k3⟩ := key W q
    rw [← h5, h6] at hf
    simp [Instr.lookup, run_underlying ht, MapKept.run_getObj_map k1, check_ptr, find_key k2 es.toList k3, hf]
set_option maxRecDepth 100000 in
theorem keys_at (n : Nat) (a : Option Addr) : Instr.sameBits (n + 1) (.pointer a) (.pointer a) = true := by simp [Instr.sameBits]
set_option maxRecDepth 100000 in
theorem keys_same (a : Option Addr) : Instr.sameBits 10000 (.pointer a) (.pointer a) = true := keys_at 9999 a
set_option maxRecDepth 100000 in
/-- 'm[k] = v'. -/
theorem PM.put {w : World} {lo b N n : Nat} (h : PM w lo b N n) {t : TypeId} (ht : Try.prog.underlying t = some (.map 79 3)) {a : Addr} (hlo : a.block < lo) (ha : Zb w a.block) {c : Int} (h0 : 0 ≤ c) (hc : c ≤ (N : Int)) :
    ∃ w', (Instr.mapUpdate t (.map (some b)) (.pointer (some a)) (.int .i64 c)).run Try.prog w = .ok () w' ∧ PM w' lo b N (n + 1) ∧ Keep (· = b) w w' := by
  have hzb := h.zb
  obtain ⟨es, clock, hb, h1, h2⟩ := h
  have turned : ∀ es' clock', es'.size ≤ n + 1 → (∀ e ∈ es'.toList, Pe w lo N e) → PM (setBlock w b (.map es' clock')) lo b N (n + 1) ∧ Keep (· = b) w (setBlock w b (.map es' clock')) := fun es' clock' k1 k2 => by
    have hm : w.mapTurned (setBlock w b (.map es' clock')) b := ⟨es, clock, es', clock', hb, rfl⟩
    have q : Keep (· = b) w (setBlock w b (.map es' clock')) := (okeep_grown hm.grown).mono fun j hj => by injection hj with hj; exact hj.symm
    refine ⟨⟨es', clock', heap_setBlock_same hb _, k1, fun e he => ?_⟩, q⟩
    obtain ⟨a, c, l1, l2, l3⟩ := k2 e he
    exact ⟨a, c, l1, ⟨l2.1, l2.2.keep q (fun e => hzb (e ▸ l2.2))⟩, l3⟩
  cases hf : fp a es.toList 0 with
  | none =>
    obtain ⟨k1, k2⟩ := turned (es.push { key := .pointer (some a), val := .int .i64 c, born := clock }) (clock + 1) (by simp; omega) (fun e he => by
      simp only [Array.toList_push, List.mem_append, List.mem_singleton] at he
      rcases he with he | rfl
      · exact h2 e he
      · exact ⟨a, c, rfl, ⟨hlo, ha⟩, rfl, h0, hc⟩)
    refine ⟨_, ?_, k1, k2⟩
    simp [Instr.mapUpdate, run_underlying ht, MapKept.run_getObj_map hb, check_ptr, find_key ha es.toList h2, hf, MapKept.run_setObj_map _ hb, Result.andThen, setBlock]
  | some x =>
    obtain ⟨j, v⟩ := x
    obtain ⟨k, e, hj, h4, h5, h6⟩ := fp_some hf
    obtain rfl : j = k := by omega
    have h4' : es[j]? = some e := by simpa using h4
    obtain ⟨k1, k2⟩ := turned (es.modify j fun e => { e with key := .pointer (some a), val := .int .i64 c }) clock (by simp; omega) (fun e' he => by
      obtain ⟨i, hi⟩ := List.mem_iff_getElem?.1 he
      rw [Array.getElem?_toList, Array.getElem?_modify] at hi
      split at hi
      · cases hg : es[i]? with
        | none => simp [hg] at hi
        | some y =>
          simp [hg] at hi
          subst hi
          exact ⟨a, c, rfl, ⟨hlo, ha⟩, rfl, h0, hc⟩
      · exact h2 e' (List.mem_of_getElem? (by rw [Array.getElem?_toList]; exact hi)))
    refine ⟨_, ?_, k1, k2⟩
    simp [Instr.mapUpdate, run_underlying ht, MapKept.run_getObj_map hb, check_ptr, find_key ha es.toList h2, hf, h4', h5, Instr.keyThatStays, keys_same, MapKept.run_setObj_map _ hb, Result.andThen, setBlock]
end Go.Proofs.Ythcjfgfbeollpaa.P13
