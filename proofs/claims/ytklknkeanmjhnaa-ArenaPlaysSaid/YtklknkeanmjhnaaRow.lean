/- A row of numbers behind a slice that starts at its block's head: what is read, stored, cleared, and what append(row, make([]int, n)...) does. -/
import Derived.Test.YtklknkeanmjhnaaBase
import Derived.Test.YtklknkeanmjhnaaChecked
import Derived.Lib.AppendZerosOnto
import Derived.Lib.SliceRun
namespace Go.Proofs.Ytklknkeanmjhnaa.Row
open Go.RowKit Go.Proofs.Ytklknkeanmjhnaa.Base

/-- The slice v has n numbers: C 0, C 1, .. -/
def Row (w : World) (v : Value) (n : Nat) (C : Nat → Int) : Prop :=
  (v = .slice none 0 0 ∧ n = 0) ∨ ∃ g cap cur, v = .slice (some ⟨g, 0, none⟩) n cap ∧ At w g 3 cur ∧ n ≤ cap ∧ cap ≤ maxLen ∧ cur.size = cap ∧ ∀ j, j < n → cur[j]? = some (.int .i64 (C j))

theorem Row.keep {S : Nat → Prop} {w w' : World} {v : Value} {n : Nat} {C : Nat → Int} (h : Row w v n C) (q : Keep S w w') (hn : ∀ g, v.ownBlock = some g → ¬ S g) : Row w' v n C := by
  rcases h with h | ⟨g, cap, cur, rfl, ha, r⟩
  · exact .inl h
  · exact .inr ⟨g, cap, cur, rfl, ha.keep q (hn g rfl), r⟩

theorem Row.lt {w : World} {v : Value} {n : Nat} {C : Nat → Int} (h : Row w v n C) {g : Nat} (hg : v.ownBlock = some g) : g < w.heap.size := by
  rcases h with ⟨rfl, _⟩ | ⟨g', cap, cur, rfl, ha, r⟩
  · cases hg
  · cases hg
    exact ha.lt

theorem Row.congr {w : World} {v : Value} {n : Nat} {C C' : Nat → Int} (h : Row w v n C) (e : ∀ j, j < n → C' j = C j) : Row w v n C' := by
  rcases h with h | ⟨g, cap, cur, rfl, ha, h1, h2, h3, h4⟩
  · exact .inl h
  · exact .inr ⟨g, cap, cur, rfl, ha, h1, h2, h3, fun j hj => by rw [e j hj]; exact h4 j hj⟩

theorem Row.nil (w : World) (C : Nat → Int) : Row w (.slice none 0 0) 0 C := .inl ⟨rfl, rfl⟩

theorem run_append_room_zeros {P : Program} (w : World) (t tn ty e : TypeId) (i : TypeInfo) (z : Value) (kn : IntKind) (ht : P.underlying t = some (.slice e)) (htn : P.underlying tn = some (.int kn)) (hi : P.info? e = some i) (hz : i.zero = some z) (hs : i.size = 1) (hby : i.bytes = 8) (hzc : z.cells = #[z]) (h1 : z.oneCell' = true)
    (g sLen sCap : Nat) (cur : Array Value) (hg : w.heap[g]? = some (.cells cur e (0, 0))) (n : Nat) (h0 : 0 < n) (hn : n ≤ 2097152) (hroom : sLen + n ≤ sCap) (hfit : sLen + n ≤ cur.size) :
    (Builtin.append_ #[t, tn] ty #[.slice (some ⟨g, 0, none⟩) sLen sCap, .int .i64 n]).run P w =
      .ok (.slice (some ⟨g, 0, none⟩) (sLen + n) sCap) (w.setRow g (cur.toList.take sLen ++ List.replicate n z ++ cur.toList.drop (sLen + n)).toArray) := by
  have hzl : (Builtin.zeroCells z.cells n).toList = List.replicate n z := by
    rw [hzc]
    apply List.ext_getElem
    · simp [Builtin.zeroCells]
    · intro i h1 h2
      simp [Builtin.zeroCells, Nat.mod_one]
  have hst := run_storeCells_at P g sLen e (List.replicate n z) 0 cur w hg (by simpa using hfit) (by intro u hu; rw [List.eq_of_mem_replicate hu]; exact h1)
  simp only [Nat.add_zero, List.length_replicate] at hst
  have hw : IntKind.i64.wrap (n : Int) = n := by rw [IntKind.wrap_i64]; omega
  have hneg : ¬ ((n : Int) < 0) := by omega
  have h48 : ¬ (281474976710656 < (n : Int) * 8) := by omega
  have hns : ¬ (n = 0) := by omega
  simp [Builtin.append_, run_underlying ht, run_underlying htn, sizeOf, typeInfo, zeroValue, hi, hz, hs, hby, asInt, asIntOf, hw, hneg, h48, hns, hroom, Addr.add_lit, hzl, hst]

theorem infoI : (Try.prog.info? 3).map (fun i => (i.zero, i.size, i.bytes)) = some (some (.int .i64 0), 1, 8) := by kernel_rfl

/-- append(row, make([]int, k)...): k noughts more. -/
theorem Row.grow {w : World} {v : Value} {n : Nat} {C : Nat → Int} (h : Row w v n C) (k : Nat) (h0 : 0 < k) (hk : n + k ≤ 2097152) (ty : TypeId) :
    ∃ v' w', (Builtin.append_ #[32, 3] ty #[v, .int .i64 k]).run Try.prog w = .ok v' w' ∧ Row w' v' (n + k) (fun j => if j < n then C j else 0) ∧ Keep (fun b => v.ownBlock = some b) w w' ∧
      ∃ g, v'.ownBlock = some g ∧ (v.ownBlock = some g ∨ w.heap.size ≤ g) ∧ g < w'.heap.size := by
  obtain ⟨i0, hi, hz0, hz1, hz2⟩ := info_parts infoI
  have grown : ∀ (base : Option Addr) (sCap : Nat) (olds : List Value) (_ : (Builtin.firstCells i0.size n (.slice base n sCap)).run Try.prog w.drew = .ok olds.toArray w.drew) (_ : sCap < n + k) (_ : olds.length = n) (_ : ∀ j, j < n → olds[j]? = some (.int .i64 (C j))),
      ∃ v' w', (Builtin.append_ #[32, 3] ty #[.slice base n sCap, .int .i64 k]).run Try.prog w = .ok v' w' ∧ Row w' v' (n + k) (fun j => if j < n then C j else 0) ∧ Keep (fun _ => False) w w' ∧ v'.ownBlock = some w.heap.size ∧ w.heap.size < w'.heap.size := by
    intro base sCap olds hold hc hl ho
    have hr := Lib.run_append_grow_zeros w 32 3 ty 3 i0 (.int .i64 0) .i64 .i64 Try.underlying32 Try.underlying3 hi hz0 base n sCap olds hold k h0 (by omega) hc (by omega) (by rw [hz2]; omega)
      (by rw [hz2]; exact growslice_fits hc (by omega))
    have hge := grownCap_ge w (n + k) sCap 3
    have hle := grownCap_le_maxLen w (n + k) sCap 3 (by simp only [maxLen]; omega)
    have hzc : ∀ m, (Builtin.zeroCells (Value.int .i64 0).cells m) = Array.replicate m (.int .i64 0) := fun m => by
      apply Array.ext
      · simp [Builtin.zeroCells, Value.cells]
      · intro i h1 h2
        simp [Builtin.zeroCells, Value.cells, Nat.mod_one]
    rw [hzc, hzc] at hr
    generalize grownCap w (n + k) sCap 3 = cap at *
    refine ⟨_, _, hr, .inr ⟨_, _, _, rfl, (At.new w.drew _ _), hge, hle, by simp [hl]; omega, fun j hj => ?_⟩, ((Keep.refl _ w).drew).alloc _, rfl, by simp⟩
    by_cases h1 : j < n
    · simp only [if_pos h1]
      rw [Array.getElem?_append_left (by simp [hl]; omega), Array.getElem?_append_left (by simp [hl]; omega)]
      simpa using ho j h1
    · simp only [if_neg h1]
      rw [Array.getElem?_append_left (by simp [hl]; omega), Array.getElem?_append_right (by simp [hl]; omega), Array.getElem?_replicate, if_pos (by simp [hl]; omega)]
  rcases h with ⟨rfl, rfl⟩ | ⟨g, cap, cur, rfl, ha, h1, h2, h3, h4⟩
  · obtain ⟨v', w', r1, r2, r3, r4, r5⟩ := grown none 0 [] (by simp [Builtin.firstCells]) (by omega) rfl (fun j hj => by omega)
    exact ⟨v', w', r1, r2, r3.mono fun _ h => h.elim, _, r4, .inr (Nat.le_refl _), r5⟩
  · by_cases hroom : n + k ≤ cap
    · have hr := run_append_room_zeros w 32 3 ty 3 i0 (.int .i64 0) .i64 Try.underlying32 Try.underlying3 hi hz0 hz1 hz2 rfl rfl g n cap cur ha k h0 (by omega) hroom (by omega)
      refine ⟨_, _, hr, .inr ⟨g, cap, _, rfl, setRow_heap w g cur _ 3 _ ha, hroom, h2, ?_, fun j hj => ?_⟩, ⟨rfl, rfl, rfl, by simp [World.setRow], fun b _ hn => setRow_other w g b _ (fun e => hn (by simp [Value.ownBlock, e]))⟩, g, rfl, .inl rfl, by simpa [World.setRow] using ha.lt⟩
      · simp
        omega
      · simp only [List.getElem?_toArray]
        by_cases h5 : j < n
        · simp only [if_pos h5]
          rw [List.append_assoc, List.getElem?_append_left (by simp; omega), List.getElem?_take_of_lt h5]
          simpa using h4 j h5
        · simp only [if_neg h5]
          rw [List.append_assoc, List.getElem?_append_right (by simp; omega), List.getElem?_append_left (by simp; omega), List.getElem?_replicate, if_pos (by simp; omega)]
    · have hold : (Builtin.firstCells i0.size n (.slice (some ⟨g, 0, none⟩) n cap)).run Try.prog w.drew = .ok (cur.toList.take n).toArray w.drew := by
        refine run_firstCells_some (P := Try.prog) w.drew i0.size n ⟨g, 0, none⟩ n cap (cur.toList.take n) (by rw [hz1]; simp; omega) (fun j u hu => ?_)
        rw [Addr.add_lit]
        have hj : j < n := by
          have := (List.getElem?_eq_some_iff.1 hu).1
          simp at this
          omega
        rw [List.getElem?_take_of_lt hj] at hu
        have := (ha.drew).cell (o := 0 + j) (v := u) (by simpa using hu)
        exact this
      obtain ⟨v', w', r1, r2, r3, r4, r5⟩ := grown (some ⟨g, 0, none⟩) cap _ hold (by omega) (by simp; omega) (fun j hj => by rw [List.getElem?_take_of_lt hj]; simpa using h4 j hj)
      exact ⟨v', w', r1, r2, r3.mono fun _ h => h.elim, _, r4, .inr (Nat.le_refl _), r5⟩

end Go.Proofs.Ytklknkeanmjhnaa.Row
