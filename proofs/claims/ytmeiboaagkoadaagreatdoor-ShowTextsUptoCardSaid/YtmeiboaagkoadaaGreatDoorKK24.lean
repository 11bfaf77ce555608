/- A strings.Builder of the call's own, beside other blocks: what WriteString and String do to it and what they leave alone. -/
import Derived.Test.YtmeiboaagkoadaaGreatDoorKK17
import Derived.Test.YtmeiboaagkoadaaGreatDoorKK05
import Derived.Maps.AppendAt
import Derived.Lib.AppendZeros
namespace Go.Proofs.YtmeiboaagkoadaaGreatDoor.Ref06
open Go.RowKit Go.Proofs.YtmeiboaagkoadaaGreatDoor.Base Go.Proofs.YtmeiboaagkoadaaGreatDoor.Builder

/-- The builder in block b: its buffer is v, its bytes bs; both from B on. -/
structure Bd (w : World) (B b : Nat) (v : Value) (bs : List Value) : Prop where
  base : B ≤ b
  cells : ∃ p, (p = .pointer none ∨ p = .pointer (some ⟨b, 0, none⟩)) ∧ At w b 67 #[p, v]
  own : w.ownsRow B 5 1 v bs.length bs

theorem own_keep {S : Nat → Prop} {w w' : World} {B : Nat} {v : Value} {n : Nat} {xs : List Value} (h : w.ownsRow B 5 1 v n xs) (q : Keep S w w') (hn : ∀ g, v.ownBlock = some g → ¬ S g) : w'.ownsRow B 5 1 v n xs := by
  refine ⟨h.1, ?_⟩
  rcases h.2 with h | ⟨g, cap, cur, rfl, hb, hg, r⟩
  · exact .inl h
  · refine .inr ⟨g, cap, cur, rfl, hb, ?_, r⟩
    have : At w g 5 cur := hg
    exact this.keep q (hn g rfl)

theorem own_ne {w : World} {B : Nat} {v : Value} {n : Nat} {xs : List Value} (h : w.ownsRow B 5 1 v n xs) {b : Nat} {t : TypeId} {cs : Array Value} (ha : At w b t cs) (ht : t ≠ 5) : v.ownBlock ≠ some b :=
  Lib.ownBlock_ne h ha ht

theorem own_base {w : World} {B : Nat} {v : Value} {n : Nat} {xs : List Value} (h : w.ownsRow B 5 1 v n xs) {g : Nat} (hg : v.ownBlock = some g) : B ≤ g := by
  rcases h.2 with ⟨rfl, _⟩ | ⟨g', cap, cur, rfl, hb, _⟩
  · cases hg
  · cases hg
    exact hb

theorem Bd.keep {S : Nat → Prop} {w w' : World} {B b : Nat} {v : Value} {bs : List Value} (h : Bd w B b v bs) (q : Keep S w w') (hS : ∀ k, ¬ S k) : Bd w' B b v bs := by
  obtain ⟨p, hp, ha⟩ := h.cells
  exact ⟨h.base, ⟨p, hp, ha.keep q (hS b)⟩, own_keep h.own q (fun g _ => hS g)⟩

theorem Bd.fresh (w : World) (B : Nat) (hB : B ≤ w.heap.size) : Bd (w.alloc (.cells #[.pointer none, .slice none 0 0] 67)) B w.heap.size (.slice none 0 0) [] :=
  ⟨hB, ⟨_, .inl rfl, At.new w _ _⟩, ⟨rfl, .inl ⟨rfl, rfl⟩⟩⟩

/-- What a WriteString leaves. -/
def Wrote (w : World) (B b : Nat) (v : Value) (bs : List Value) (n : Nat) (e : Ending) (w' : World) : Prop :=
  e = .returned (.tuple #[.int .i64 n, .nilIface]) ∧ ∃ v', Bd w' B b v' bs ∧ Keep (fun k => k = b ∨ v.ownBlock = some k) w w'

theorem check_bd (B b : Nat) (v : Value) (bs : List Value) (w : World) (h : Bd w B b v bs) :
    Calls Tryz.prog 51 #[.pointer (some ⟨b, 0, none⟩)] w fun e w' => e = .returned (.tuple #[]) ∧ At w' b 67 #[.pointer (some ⟨b, 0, none⟩), v] ∧ w'.ownsRow B 5 1 v bs.length bs ∧ Keep (fun k => k = b) w w' := by
  obtain ⟨p, hp, ha⟩ := h.cells
  rcases hp with rfl | rfl
  · have hsh : w.shape? b = some (67, 2) := by
      have : w.heap[b]? = some (.cells #[.pointer none, v] 67 (0, 0)) := ha
      simp [World.shape?, this]
    refine (check_fresh b w (ha.cell rfl) hsh (ha.frozen 0)).mono ?_
    rintro e w' ⟨rfl, rfl⟩
    have q := (Keep.refl (fun k => k = b) w).setCell (p := ⟨b, 0, none⟩) (fun _ => rfl) (.pointer (some ⟨b, 0, none⟩))
    exact ⟨rfl, ha.set 0 _, own_keep h.own q (fun g hg hk => own_ne h.own ha (by decide) (by rw [hg, hk])), q⟩
  · refine (check_used b w (ha.cell rfl)).mono ?_
    rintro e w' ⟨rfl, rfl⟩
    exact ⟨rfl, ha, h.own, Keep.refl _ _⟩

set_option maxHeartbeats 2000000 in
set_option maxRecDepth 100000 in
theorem write_bd (B b : Nat) (v : Value) (bs : List Value) (l : List UInt8) (w : World) (h : Bd w B b v bs) (hlen : bs.length + l.length ≤ 140737488355328) (hBw : B ≤ w.heap.size) :
    Calls Tryz.prog 28 #[.pointer (some ⟨b, 0, none⟩), str l] w (Wrote w B b v (bs ++ Lib.byteCells l) l.length) := by
  obtain ⟨i0, hi, hz0, hz1, hz2⟩ := info_parts infoByte
  have hsz : (ByteArray.mk l.toArray).size = l.length := by simp [ByteArray.size]
  have hB := h.base
  go_enter Tryz.func28, Tryz.ntmps28
  go_wp2_with fail
  refine (check_bd B b v bs _ h).mono ?_
  rintro e w1 ⟨rfl, ha, hown, q1⟩
  have HQ := Lib.hid (And.intro ha q1)
  have c0 : w1.cell? ⟨b, 0, none⟩ = some (.pointer (some ⟨b, 0, none⟩)) := ha.cell rfl
  have c1 : w1.cell? ⟨b, 1, none⟩ = some v := ha.cell rfl
  clear ha
  go_wp2_with (at_builtin; refine Lib.wpList_append_own_string _ rfl _ _ 65 9 rfl B 5 i0 Tryz.underlying65 Tryz.underlying9 hi hz0 hz1 hz2 _ _ _ rfl hown ⟨l.toArray⟩ rfl ?c3 ?c4 ?c5 ?_)
  case c3 => rw [hsz]; unfold maxLen; omega
  case c4 => rw [hsz]; omega
  case c5 => have := q1.size; omega
  intro v' w2 hown' hgrow _
  have hne := own_ne hown HQ.out.1 (by decide)
  have q2 : Keep (fun k => v.ownBlock = some k) w1 w2 := ⟨hgrow.os, hgrow.tape, hgrow.output, hgrow.size, fun k hk hn => hgrow.block k hk (fun e => hn e.symm)⟩
  have ha2 := HQ.out.1.keep q2 hne
  have d0 : w2.cell? ⟨b, 0, none⟩ = some (.pointer (some ⟨b, 0, none⟩)) := ha2.cell rfl
  have d1 : w2.cell? ⟨b, 1, none⟩ = some v := ha2.cell rfl
  have f1 : w2.frozen? ⟨b, 1, none⟩ = false := ha2.frozen 1
  have HR := Lib.hid (And.intro hown' (And.intro q2 (And.intro ha2 hsz)))
  clear hown hown' hgrow hne q2 ha2 q1 hsz
  obtain ⟨ao, n', cap, rfl⟩ : ∃ ao n' cap, v' = .slice ao n' cap := by
    rcases HR.out.1.2 with ⟨hv, _⟩ | ⟨g, cap, cur, hv, _⟩
    · exact ⟨_, _, _, hv⟩
    · exact ⟨_, _, _, hv⟩
  go_wp2
  go_ret2
  obtain ⟨hown', q2, ha2, hsz⟩ := HR.out
  have hne' := own_ne hown' ha2 (by decide)
  have q3 := (Keep.refl (fun k => k = b) w2).setCell (p := ⟨b, 1, none⟩) (fun _ => rfl) (.slice ao n' cap)
  refine ⟨?_, .slice ao n' cap, ⟨hB, ⟨_, .inr rfl, ha2.set 1 _⟩, ?_⟩, ?_⟩
  · first | rfl | (rw [hsz]; rfl) | (simp [hsz])
  · try rw [hsz] at hown'
    have e : (bs ++ Lib.byteCells l).length = bs.length + l.length := by rw [List.length_append, Lib.byteCells_length]
    rw [e]
    exact own_keep hown' q3 (fun g hg hk => hne' (by rw [hg, hk]))
  · exact (HQ.out.2.mono (fun i hi => .inl hi)).trans ((q2.mono (fun i hi => .inr hi)).trans (q3.mono (fun i hi => .inl hi)))

set_option maxHeartbeats 2000000 in
set_option maxRecDepth 100000 in
theorem writeByte_bd (B b : Nat) (v : Value) (bs : List Value) (c : Int) (w : World) (h : Bd w B b v bs) (hlen : bs.length + 1 ≤ 140737488355328) (hBw : B ≤ w.heap.size) :
    Calls Tryz.prog 30 #[.pointer (some ⟨b, 0, none⟩), .int .u8 c] w fun e w' => e = .returned .nilIface ∧ ∃ v', Bd w' B b v' (bs ++ [.int .u8 c]) ∧ Keep (fun k => k = b ∨ v.ownBlock = some k) w w' := by
  obtain ⟨i0, hi, hz0, hz1, hz2⟩ := info_parts infoByte
  have hB := h.base
  go_enter Tryz.func30, Tryz.ntmps30
  go_wp2_with fail
  refine (check_bd B b v bs _ h).mono ?_
  rintro e w1 ⟨rfl, ha, hown, q1⟩
  have c0 : w1.cell? ⟨b, 0, none⟩ = some (.pointer (some ⟨b, 0, none⟩)) := ha.cell rfl
  have c1 : w1.cell? ⟨b, 1, none⟩ = some v := ha.cell rfl
  have qa := (Keep.refl (fun _ => False) w1).alloc (.cells #[.int .u8 c] 5)
  have d0 := (At.new w1 #[.int .u8 c] 5).cell (o := 0) rfl
  obtain ⟨v', w2, hrun, hown', hgrow, _, hob⟩ := run_append_own_at (P := Tryz.prog) (w1.alloc (.cells #[.int .u8 c] 5)) B 65 65 5 i0 (.int .u8 0) 1 1 Tryz.underlying65 hi hz0 hz1 hz2 rfl (by omega) v bs.length bs (own_keep hown qa (fun _ _ h => h)) ⟨w1.heap.size, 0, none⟩ 1 1 [.int .u8 c] rfl
    (fun j u hu => by
      match j, hu with
      | 0, hu => cases hu; exact d0
      | j + 1, hu => simp at hu) (by intro u hu; simp at hu; subst hu; rfl) (by simp only [maxLen]; omega) (by omega) (by have := q1.size; simp; omega)
  have hne := own_ne hown ha (by decide)
  have q2 : Keep (fun k => v.ownBlock = some k) w1 w2 := (qa.mono (fun _ h => h.elim)).trans ⟨hgrow.os, hgrow.tape, hgrow.output, hgrow.size, fun k hk hn => hgrow.block k hk (fun e => hn e.symm)⟩
  have ha2 := ha.keep q2 hne
  have e1 : w2.cell? ⟨b, 1, none⟩ = some v := ha2.cell rfl
  have f1 : w2.frozen? ⟨b, 1, none⟩ = false := ha2.frozen 1
  have HQ := Lib.hid (And.intro ha q1)
  have HR := Lib.hid (And.intro hown' (And.intro q2 ha2))
  clear hown hown' hgrow hne q2 ha2 q1 hob ha qa
  obtain ⟨ao, n', cap, rfl⟩ : ∃ ao n' cap, v' = .slice ao n' cap := by
    rcases HR.out.1.2 with ⟨hv, _⟩ | ⟨g, cap, cur, hv, _⟩
    · exact ⟨_, _, _, hv⟩
    · exact ⟨_, _, _, hv⟩
  go_wp2_with (at_builtin; refine Lib.wpList_append_run _ rfl _ _ _ _ rfl _ _ rfl rfl _ _ hrun ?_)
  clear hrun
  go_wp2_with fail
  go_ret
  obtain ⟨hown', q2, ha2⟩ := HR.out
  have hne' := own_ne hown' ha2 (by decide)
  have q3 := (Keep.refl (fun k => k = b) w2).setCell (p := ⟨b, 1, none⟩) (fun _ => rfl) (.slice ao n' cap)
  refine ⟨rfl, .slice ao n' cap, ⟨hB, ⟨_, .inr rfl, ha2.set 1 _⟩, ?_⟩, ?_⟩
  · rw [List.length_append]
    exact own_keep hown' q3 (fun g hg hk => hne' (by rw [hg, hk]))
  · exact (HQ.out.2.mono (fun i hi => .inl hi)).trans ((q2.mono (fun i hi => .inr hi)).trans (q3.mono (fun i hi => .inl hi)))

/-- A block beside it. -/
theorem Bd.side {w w' : World} {B b : Nat} {v : Value} {bs : List Value} (h : Bd w B b v bs) {n : Nat} {T : TypeId} {cs : Array Value} (ha : At w n T cs) (hT : T ≠ 5) (hn : n ≠ b) (q : Keep (fun k => k = b ∨ v.ownBlock = some k) w w') : At w' n T cs :=
  ha.keep q (fun h1 => by
    rcases h1 with h1 | h1
    · exact hn h1
    · exact own_ne h.own ha hT h1)
theorem Bd.next {w0 w w' : World} {B b : Nat} {v : Value} {bs : List Value} (h : Bd w B b v bs) (hq : Keep (fun _ => False) w0 w) (hB : w0.heap.size ≤ B) (q : Keep (fun k => k = b ∨ v.ownBlock = some k) w w') : Keep (fun _ => False) w0 w' :=
  hq.next q (fun i hi hl => by
    rcases hi with rfl | hi
    · have := h.base
      omega
    · have := own_base h.own hi
      omega)

/-- String: the text that was written. -/
theorem string_bd (B b : Nat) (v : Value) (l : List UInt8) (w : World) (h : Bd w B b v (Lib.byteCells l)) (hBw : B ≤ w.heap.size) :
    Calls Tryz.prog 33 #[.pointer (some ⟨b, 0, none⟩)] w fun e w' => e = .returned (str l) ∧ Below B w w' := by
  obtain ⟨p, hp, ha⟩ := h.cells
  have hne := own_ne h.own ha (by decide)
  refine Lay.Builder_String_any B b l w ?_ hBw
  rcases hp with rfl | rfl
  · exact .inl ⟨h.base, v, ha, h.own, hne⟩
  · exact .inr ⟨h.base, v, ha, h.own, hne⟩

end Go.Proofs.YtmeiboaagkoadaaGreatDoor.Ref06
