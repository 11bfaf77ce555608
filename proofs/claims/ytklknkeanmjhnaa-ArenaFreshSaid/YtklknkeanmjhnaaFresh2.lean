/- What ArenaFresh holds on its way: the arena, the map of maps beside it, and other blocks of the caller's. -/
import Derived.Test.YtklknkeanmjhnaaHeld
namespace Go.Proofs.Ytklknkeanmjhnaa.ArenaFresh
open Go.RowKit Go.Proofs.Ytklknkeanmjhnaa.Base Go.Proofs.Ytklknkeanmjhnaa.Arena Go.Proofs.Ytklknkeanmjhnaa.Stretch Go.Proofs.Ytklknkeanmjhnaa.Regs Go.Proofs.Ytklknkeanmjhnaa.Law02

/-- What a region's map reads as. -/
def cellF (C : Nat → Int) (r : Reg) : Int → Int := fun i => if 0 ≤ i ∧ i < r.n then C (r.base + i.toNat) else 0

/-- The blocks of the caller's own. -/
def Bl (X : List Nat) (L : List Reg) (hm : Nat) (hb : Nat → Nat) : Nat → Prop := fun j => j = hm ∨ j ∈ X ∨ ∃ r ∈ L, hb r.id = j

structure Fr (w0 w : World) (X : List Nat) (b : Nat) (s : AS) (L : List Reg) (C : Nat → Int) (hm k : Nat) (hb : Nat → Nat) (D : DataW Unit) : Prop where
  o : One w0 w (Bl X L hm hb) b none s mm
  own : MO2 w hm k L hb D
  inn : ∀ r ∈ L, MI w (hb r.id) k (cellF C r)
  inj : ∀ r ∈ L, ∀ r' ∈ L, hb r.id = hb r'.id → r.id = r'.id
  ne : ∀ r ∈ L, hb r.id ≠ hm ∧ hb r.id ∉ X ∧ w0.heap.size ≤ hb r.id
  hx : hm ∉ X ∧ w0.heap.size ≤ hm ∧ ∀ j ∈ X, w0.heap.size ≤ j

section
variable {w0 w w' : World} {X : List Nat} {b : Nat} {s : AS} {L : List Reg} {C : Nat → Int} {hm k : Nat} {hb : Nat → Nat} {D : DataW Unit}

theorem Fr.base (h : Fr w0 w X b s L C hm k hb D) : ∀ j, Bl X L hm hb j → w0.heap.size ≤ j := fun j hj => by
  rcases hj with rfl | hj | ⟨r, hr, rfl⟩
  · exact h.hx.2.1
  · exact h.hx.2.2 j hj
  · exact (h.ne r hr).2.2

theorem Fr.quiet (h : Fr w0 w X b s L C hm k hb D) (q : Keep (fun _ => False) w w') : Fr w0 w' X b s L C hm k hb D :=
  ⟨h.o.quiet q, h.own.keep q id, fun r hr => (h.inn r hr).keep q id, h.inj, h.ne, h.hx⟩

/-- What the arena does. -/
theorem Fr.did {s' : AS} (h : Fr w0 w X b s L C hm k hb D) (o : One w0 w' (Bl X L hm hb) b none s' mm) (q : Keep (fun j => ¬ Bl X L hm hb j) w w') : Fr w0 w' X b s' L C hm k hb D :=
  ⟨o, h.own.keep q (fun hn => hn (.inl rfl)), fun r hr => (h.inn r hr).keep q (fun hn => hn (.inr (.inr ⟨r, hr, rfl⟩))), h.inj, h.ne, h.hx⟩

theorem Fr.less {X' : List Nat} (h : Fr w0 w X b s L C hm k hb D) (hs : ∀ j ∈ X', j ∈ X) : Fr w0 w X' b s L C hm k hb D :=
  ⟨h.o.step (Keep.refl (fun _ => False) w) (fun _ h => h.elim) h.base (fun j hj => .inl (hj.imp id (Or.imp (hs j) id))) (fun j hj => h.o.lt (hj.imp id (Or.imp (hs j) id))), h.own, h.inn, h.inj,
    fun r hr => ⟨(h.ne r hr).1, fun hc => (h.ne r hr).2.1 (hs _ hc), (h.ne r hr).2.2⟩, fun hc => h.hx.1 (hs _ hc), h.hx.2.1, fun j hj => h.hx.2.2 j (hs j hj)⟩

/-- A new block. -/
theorem Fr.grow (h : Fr w0 w X b s L C hm k hb D) (q : Keep (fun _ => False) w w') (hz : w'.heap.size = w.heap.size + 1) : Fr w0 w' (w.heap.size :: X) b s L C hm k hb D := by
  have hl := fun j hj => h.o.lt (k := j) hj
  have h0 := h.o.keep.size
  refine ⟨h.o.step q (fun _ h => h.elim) h.base (fun j hj => ?_) (fun j hj => ?_), h.own.keep q id, fun r hr => (h.inn r hr).keep q id, h.inj, fun r hr => ⟨(h.ne r hr).1, fun hc => ?_, (h.ne r hr).2.2⟩, fun hc => ?_, h.hx.2.1, fun j hj => ?_⟩
  · rcases hj with e | e | e
    · exact .inl (.inl e)
    · rcases List.mem_cons.1 e with e | e
      · exact .inr (by omega)
      · exact .inl (.inr (.inl e))
    · exact .inl (.inr (.inr e))
  · rw [hz]
    rcases hj with e | e | e
    · have := hl j (.inl e); omega
    · rcases List.mem_cons.1 e with e | e
      · omega
      · have := hl j (.inr (.inl e)); omega
    · have := hl j (.inr (.inr e)); omega
  · rcases List.mem_cons.1 hc with e | e
    · have := hl (hb r.id) (.inr (.inr ⟨r, hr, rfl⟩)); omega
    · exact (h.ne r hr).2.1 e
  · rcases List.mem_cons.1 hc with e | e
    · have := hl hm (.inl rfl); omega
    · exact h.hx.1 e
  · rcases List.mem_cons.1 hj with e | e
    · omega
    · exact h.hx.2.2 j e

theorem Fr.more (h : Fr w0 w X b s L C hm k hb D) (ob : Obj) : Fr w0 (w.alloc ob) (w.heap.size :: X) b s L C hm k hb D := h.grow ((Keep.refl _ w).alloc ob) (by simp)

/-- One of these blocks turns. -/
theorem Fr.turn {m : Nat} (h : Fr w0 w X b s L C hm k hb D) (hmx : m ∈ X) (q : Keep (· = m) w w') : Fr w0 w' X b s L C hm k hb D :=
  ⟨h.o.step q (fun j e => .inr (.inl (by subst e; exact hmx))) h.base (fun j hj => .inl hj) (fun j hj => Nat.lt_of_lt_of_le (h.o.lt hj) q.size), h.own.keep q (fun e => h.hx.1 (by rw [e]; exact hmx)),
    fun r hr => (h.inn r hr).keep q (fun e => (h.ne r hr).2.1 (by rw [e]; exact hmx)), h.inj, h.ne, h.hx⟩

/-- What the maps read as may be said otherwise. -/
theorem Fr.recf {C' : Nat → Int} (h : Fr w0 w X b s L C hm k hb D) (e : ∀ r ∈ L, ∀ p, r.base ≤ p → p < r.base + r.n → C' p = C p) : Fr w0 w X b s L C' hm k hb D :=
  ⟨h.o, h.own, fun r hr => (h.inn r hr).congr (fun i => by
    unfold cellF
    by_cases hi : 0 ≤ i ∧ i < r.n
    · rw [if_pos hi, if_pos hi]
      exact e r hr _ (by omega) (by omega)
    · rw [if_neg hi, if_neg hi]), h.inj, h.ne, h.hx⟩

theorem Fr.mono {k' : Nat} (h : Fr w0 w X b s L C hm k hb D) (e : k ≤ k') : Fr w0 w X b s L C hm k' hb D :=
  ⟨h.o, h.own.mono e, fun r hr => (h.inn r hr).mono e, h.inj, h.ne, h.hx⟩

/-- A region more: a new map for it, which is laid in the outer one. -/
theorem Fr.add (h : Fr w0 w X b s L C hm k hb D) (r : Reg) (hr : ∀ x ∈ L, x.id < r.id) (h2 : r.id ≤ 9223372036854775807) (hk : k < maxLen) (hC : ∀ p, r.base ≤ p → p < r.base + r.n → C p = 0) :
    ∃ w' D', (Instr.mapUpdate 52 (.map (some hm)) (.int .i64 r.id) (.map (some w.heap.size))).run Try.prog (w.alloc (.map #[] 0)) = .ok () w' ∧ Fr w0 w' X b s (L ++ [r]) C hm (k + 1) (fun i => if i = r.id then w.heap.size else hb i) D' ∧ Keep (· = hm) w w' := by
  have q : Keep (fun _ => False) w (w.alloc (.map #[] 0)) := (Keep.refl _ w).alloc _
  have hz : (w.alloc (.map #[] 0)).heap.size = w.heap.size + 1 := by simp
  have hl := fun j hj => h.o.lt (k := j) hj
  have h0 := h.o.keep.size
  have hmlt := hl hm (.inl rfl)
  obtain ⟨w', D', hrun, h3, q3⟩ := (h.own.keep q id).add r w.heap.size hr h2 hk
  have hid : ∀ x ∈ L, (if x.id = r.id then w.heap.size else hb x.id) = hb x.id := fun x hx => by have := hr x hx; rw [if_neg (by omega)]
  refine ⟨w', D', hrun, ⟨?_, h3, fun x hx => ?_, fun x hx y hy e => ?_, fun x hx => ?_, h.hx⟩, (q.mono (T := (· = hm)) fun _ h => h.elim).trans q3⟩
  · refine One.step (B := Bl X L hm hb) h.o ((q.mono (T := (· = hm)) fun _ h => h.elim).trans q3) (fun j e => .inl e) h.base (fun j hj => ?_) (fun j hj => ?_)
    · rcases hj with e | e | ⟨x, hx, e⟩
      · exact .inl (.inl e)
      · exact .inl (.inr (.inl e))
      · rcases List.mem_append.1 hx with hx | hx
        · replace e : (if x.id = r.id then w.heap.size else hb x.id) = j := e
          rw [hid x hx] at e
          exact .inl (.inr (.inr ⟨x, hx, e⟩))
        · simp at hx
          subst hx
          simp at e
          exact .inr (by omega)
    · have hs := q3.size
      rw [hz] at hs
      rcases hj with e | e | ⟨x, hx, e⟩
      · omega
      · have := hl j (.inr (.inl e)); omega
      · rcases List.mem_append.1 hx with hx | hx
        · replace e : (if x.id = r.id then w.heap.size else hb x.id) = j := e
          rw [hid x hx] at e
          have := hl j (.inr (.inr ⟨x, hx, e⟩)); omega
        · simp at hx
          subst hx
          simp at e
          omega
  · rcases List.mem_append.1 hx with hx | hx
    · rw [hid x hx]
      exact (((h.inn x hx).keep q id).keep q3 (h.ne x hx).1).mono (by omega)
    · simp at hx
      subst hx
      rw [if_pos rfl]
      exact (((MI.new w).keep q3 (by omega)).mono (by omega)).congr (fun i => by
        unfold cellF
        by_cases hi : 0 ≤ i ∧ i < x.n
        · rw [if_pos hi]; exact hC _ (by omega) (by omega)
        · rw [if_neg hi])
  · replace e : (if x.id = r.id then w.heap.size else hb x.id) = (if y.id = r.id then w.heap.size else hb y.id) := e
    rcases List.mem_append.1 hx with hx1 | hx1
    · rw [hid x hx1] at e
      have hxl := hl (hb x.id) (.inr (.inr ⟨x, hx1, rfl⟩))
      rcases List.mem_append.1 hy with hy1 | hy1
      · rw [hid y hy1] at e
        exact h.inj x hx1 y hy1 e
      · have e5 : y = r := by simpa using hy1
        rw [e5, if_pos rfl] at e
        omega
    · have e4 : x = r := by simpa using hx1
      rw [e4, if_pos rfl] at e
      rcases List.mem_append.1 hy with hy1 | hy1
      · rw [hid y hy1] at e
        have := hl (hb y.id) (.inr (.inr ⟨y, hy1, rfl⟩)); omega
      · have e5 : y = r := by simpa using hy1
        rw [e4, e5]
  · rcases List.mem_append.1 hx with hx | hx
    · rw [hid x hx]
      exact h.ne x hx
    · simp at hx
      subst hx
      rw [if_pos rfl]
      exact ⟨by omega, fun hc => by have := hl _ (.inr (.inl hc)); omega, h0⟩

/-- A region less. -/
theorem Fr.del (h : Fr w0 w X b s L C hm k hb D) (r : Reg) (h2 : r.id ≤ 9223372036854775807) (ty : TypeId) :
    ∃ w' D', (Builtin.delete_ #[52, 3] ty #[.map (some hm), .int .i64 r.id]).run Try.prog w = .ok (.tuple #[]) w' ∧ Fr w0 w' X b s (L.filter fun x => !decide ((x.id : Int) = r.id)) C hm k hb D' := by
  obtain ⟨w', D', hrun, h3, q3⟩ := h.own.del r h2 ty
  have hs : ∀ x, x ∈ (L.filter fun x => !decide ((x.id : Int) = r.id)) → x ∈ L := fun x hx => (List.mem_filter.1 hx).1
  have hB : ∀ j, Bl X (L.filter fun x => !decide ((x.id : Int) = r.id)) hm hb j → Bl X L hm hb j := fun j hj => by
    rcases hj with e | e | ⟨x, hx, e⟩
    · exact .inl e
    · exact .inr (.inl e)
    · exact .inr (.inr ⟨x, hs x hx, e⟩)
  exact ⟨w', D', hrun, h.o.step q3 (fun j e => .inl e) h.base (fun j hj => .inl (hB j hj)) (fun j hj => Nat.lt_of_lt_of_le (h.o.lt (hB j hj)) q3.size), h3, fun x hx => (h.inn x (hs x hx)).keep q3 (h.ne x (hs x hx)).1,
    fun x hx y hy => h.inj x (hs x hx) y (hs y hy), fun x hx => h.ne x (hs x hx), h.hx⟩

/-- A number is laid in a region's map. -/
theorem Fr.put (h : Fr w0 w X b s L C hm k hb D) (ho : L.Pairwise fun a b => a.id < b.id) (ha : L.Pairwise fun a b => a.base + a.n ≤ b.base ∨ b.base + b.n ≤ a.base) {r : Reg} (hr : r ∈ L) (i : Nat) (hi : i < r.n) (hn : r.n ≤ 1048576) (v : Int) (h2 : r.id ≤ 9223372036854775807) (hk : k < maxLen) :
    (Instr.lookup 52 (.map (some hm)) (.int .i64 r.id) false).run Try.prog w = .ok (.map (some (hb r.id))) w ∧
    ∃ w', (Instr.mapUpdate 53 (.map (some (hb r.id))) (.int .i64 i) (.int .i64 v)).run Try.prog w = .ok () w' ∧ Fr w0 w' X b s L (fun p => if p = r.base + i then v else C p) hm (k + 1) hb D := by
  refine ⟨h.own.look hr h2, ?_⟩
  obtain ⟨w', hrun, h3, q3⟩ := (h.inn r hr).put (x := i) v (by omega) (by omega) hk
  refine ⟨w', hrun, h.o.step q3 (fun j e => .inr (.inr ⟨r, hr, e.symm⟩)) h.base (fun j hj => .inl hj) (fun j hj => Nat.lt_of_lt_of_le (h.o.lt hj) q3.size), (h.own.keep q3 (fun e => (h.ne r hr).1 e.symm)).mono (by omega), fun x hx => ?_, h.inj, h.ne, h.hx⟩
  by_cases e : x.id = r.id
  · have hxr : x = r := by
      have h5 := look_self ho hx
      have h6 := look_self ho hr
      rw [e] at h5
      rw [h5] at h6
      injection h6
    subst hxr
    refine h3.congr fun y => ?_
    unfold cellF
    by_cases hy : y = i
    · subst hy
      rw [if_pos (by omega)]
      simp
    · by_cases hy2 : 0 ≤ y ∧ y < x.n
      · rw [if_pos hy2]
        simp only [if_neg hy, if_pos hy2]
        rw [if_neg (by omega)]
      · rw [if_neg hy2]
        simp only [if_neg hy, if_neg hy2]
  · refine (((h.inn x hx).keep q3 (fun e2 => e (h.inj x hx r hr e2))).mono (by omega)).congr fun y => ?_
    have hap := apart_of ho ha hx hr e
    unfold cellF
    by_cases hy2 : 0 ≤ y ∧ y < x.n
    · rw [if_pos hy2, if_pos hy2]
      show (if x.base + y.toNat = r.base + i then v else C (x.base + y.toNat)) = _
      rw [if_neg (by omega)]
    · rw [if_neg hy2, if_neg hy2]

/-- A new outer map in the old one's place. -/
theorem Fr.anew (h : Fr w0 w X b s L C hm k hb D) (C' : Nat → Int) : Fr w0 (w.alloc (.map #[] 0)) X b s [] C' w.heap.size 0 hb (.map []) := by
  have q : Keep (fun _ => False) w (w.alloc (.map #[] 0)) := (Keep.refl _ w).alloc _
  have hz : (w.alloc (.map #[] 0)).heap.size = w.heap.size + 1 := by simp
  have hl := fun j hj => h.o.lt (k := j) hj
  have h0 := h.o.keep.size
  refine ⟨h.o.step q (fun _ h => h.elim) h.base (fun j hj => ?_) (fun j hj => ?_), MO2.new w hb, fun r hr => by simp at hr, fun r hr => by simp at hr, fun r hr => by simp at hr, fun hc => ?_, h0, h.hx.2.2⟩
  · rcases hj with e | e | ⟨x, hx, e⟩
    · exact .inr (by omega)
    · exact .inl (.inr (.inl e))
    · simp at hx
  · rcases hj with e | e | ⟨x, hx, e⟩
    · omega
    · have := hl j (.inr (.inl e)); omega
    · simp at hx
  · have := hl _ (.inr (.inl hc)); omega

/-- The beginning. -/
theorem Fr.made (h : One w0 w (fun _ => False) b none s mm) (hs : s.L = []) : Fr w0 (w.alloc (.map #[] 0)) [] b s s.L s.C w.heap.size 0 (fun _ => 0) (.map []) := by
  have q : Keep (fun _ => False) w (w.alloc (.map #[] 0)) := (Keep.refl _ w).alloc _
  have hz : (w.alloc (.map #[] 0)).heap.size = w.heap.size + 1 := by simp
  have h0 := h.keep.size
  rw [hs]
  refine ⟨h.step q (fun _ h => h) (fun _ h => h.elim) (fun j hj => ?_) (fun j hj => ?_), MO2.new w _, fun r hr => by simp at hr, fun r hr => by simp at hr, fun r hr => by simp at hr, by simp, h0, by simp⟩
  · rcases hj with e | e | ⟨x, hx, e⟩
    · exact .inr (by omega)
    · simp at e
    · simp at hx
  · rcases hj with e | e | ⟨x, hx, e⟩
    · omega
    · simp at e
    · simp at hx
end

end Go.Proofs.Ytklknkeanmjhnaa.ArenaFresh
