/- Alloc of an arena, walked: a region is handed out. -/
import Derived.Test.YtklknkeanmjhnaaArenaAlloc3
import Derived.Deep.RegionHeld3
namespace Go.Proofs.Ytklknkeanmjhnaa.Arena
open Go.RowKit Go.Proofs.Ytklknkeanmjhnaa.Base Go.Proofs.Ytklknkeanmjhnaa.Stretch Go.Proofs.Ytklknkeanmjhnaa.Regs Go.Proofs.Ytklknkeanmjhnaa.Row Go.Proofs.Ytklknkeanmjhnaa.Meter

set_option maxRecDepth 100000 in
set_option maxHeartbeats 1000000 in
theorem alloc_given (b : Nat) (mp : Option Nat) (s : AS) (F : List Nat) (m : MS) (n : Nat) (w : World) (h : Ar w b mp s F) (hm : MO w mp m) (hF : ∀ k, mp = some k → k ∉ F) (h1 : 1 ≤ n) (hl : s.last < 4611686018427387904) (x : Nat) (hx : s.fit n = some x) (hv : (takeO mp m n).1 = true) :
    Calls Try.prog 19 #[Arena.ptr b, .int .i64 n] w (Did w b mp F (.tuple #[.int .i64 (s.last + 1 : Int), .int .i64 0]) (s.add x n) (takeO mp m n).2) := by
  have hA := h
  obtain ⟨h0, t, cv, cn, rb, hB, rfl⟩ := h
  have hz := h0.sz
  have hmo : n ≤ t.mo ∧ t.first n = x := by
    rw [fit_tree hB.ok hB.sz hB.fr h1] at hx
    by_cases hc : n ≤ t.mo
    · rw [if_pos hc] at hx
      exact ⟨hc, by simpa using hx⟩
    · rw [if_neg hc] at hx
      cases hx
  have hn2 : n ≤ 1048576 := by have := (TR.inv hB.ok).2.2.1; have := hB.sz; omega
  have hf := first_some t b 2 n w hB.ok (by have := hB.sz; omega) hB.tr hmo.1
  obtain ⟨r1, r2, r3⟩ := TR.first_ok hB.ok n h1 hmo.1
  rw [hmo.2] at hf r1 r2
  have hrun : Run s.fr x n := fun i h1 h2 => (hB.fr i).symm.trans (r1 i h1 h2)
  have hxs : x + n ≤ s.size := by have := hB.sz; omega
  have hadd := AS.add_ok h0 h1 hrun hxs hl
  have h1' : (1 : Int) ≤ n := by omega
  have ht : ∀ w1, Drawn w w1 → Calls Try.prog 48 #[Arena.ptr b, .int .i64 n] w1 fun e w' => e = .returned (.bool true) ∧ MO w' mp (takeO mp m n).2 ∧ Keep (fun k => mp = some k) w1 w' := fun w1 d => by
    have := take_any b mp s _ m n w1 (hA.none (d.keep _)) (hm.keep (d.keep (fun _ => False)) (fun _ _ => id)) (by omega) (by omega)
    rwa [hv] at this
  have hFF : ∀ k ∈ b :: rb :: (t.fp ++ cv.ownBlock.toList), ¬ mp = some k := fun k hk e => hF k e hk
  have ht2 : ∀ w1, Keep (fun k => mp = some k) w w1 → ArB w1 b mp s t cv cn rb := fun w1 q => hB.keep q hFF
  have hsz := hB.sz
  have hlt := hA.lt
  have HT := Lib.hid ht
  have HT2 := Lib.hid ht2
  have HL := Lib.hid hlt
  have HFF := Lib.hid hFF
  have HA := Lib.hid hadd
  have hus := h0.used_le
  clear ht ht2 hm hx hmo r1 r2 r3 hA hlt hFF hB hadd
  go_enter Try.func19, Try.ntmps19
  go_wp2_with fail
  refine hf.mono ?_
  rintro e w1 ⟨rfl, d1⟩
  have D1 := Lib.hid d1
  clear d1 hf
  go_wp2_with fail
  refine (HT.out _ D1.out).mono ?_
  rintro e w2 ⟨rfl, m2, q2⟩
  have q2 : Keep (fun k => mp = some k) w w2 := (D1.out.keep _).trans q2
  have B2 := HT2.out w2 q2
  have hre := reach_any b mp s t cv cn rb (x + n) w2 h0 B2 hxs
  rw [Int.natCast_add] at hre
  have Q2 := Lib.hid q2
  have M2 := Lib.hid m2
  clear B2 q2 m2 HT HT2 D1
  go_wp2_with fail
  refine hre.mono ?_
  rintro e w3 ⟨rfl, cv3, cn3, B3, hcn3, hnew3, q3⟩
  have hmk := mark_any t b 2 (x : Int) (x + n : Int) false w3 B3.ok (by omega) B3.tr (by have := B3.dup; simp only [List.nodup_cons, List.mem_cons, List.mem_append, not_or, List.nodup_append] at this ⊢; exact ⟨this.1.2.1, this.2.2.1⟩) (by omega) (by omega) (by omega) (by omega) (by omega)
  have B3' := Lib.hid B3
  have H3 := Lib.hid (And.intro hcn3 (And.intro hnew3 q3))
  clear hre B3 hcn3 hnew3 q3
  go_wp2_with fail
  refine hmk.mono ?_
  rintro e w4 ⟨rfl, m4⟩
  obtain ⟨t4, mk4, M4, n4, q4⟩ := B3'.out.mid.mark m4
  have hb4 := M4.at_.lt
  have hrb4 := M4.rm.lt
  have k8 : w4.cell? ⟨b, 8, none⟩ = some (.int .i64 (s.size - s.used : Int)) := M4.at_.cell rfl
  have f8 := M4.at_.frozen 8
  obtain ⟨M5, q5⟩ := M4.left (s.size - s.used - n : Int)
  have k9 : (w4.setCell ⟨b, 8, none⟩ (.int .i64 (s.size - s.used - n : Int))).cell? ⟨b, 9, none⟩ = some (.int .i64 s.last) := M5.at_.cell rfl
  have f9 := M5.at_.frozen 9
  have hmk4 := Lib.hid mk4
  have N4 := Lib.hid (And.intro n4 (And.intro q4 (And.intro q5 M5)))
  clear hmk m4 mk4 n4 q4 q5 M5 M4
  go_upto_region 11 with fail
  generalize w4.setCell ⟨b, 8, none⟩ (.int .i64 (s.size - s.used - n : Int)) = w5 at *
  clear k8 f8
  obtain ⟨M6, q6⟩ := N4.out.2.2.2.last (s.last + 1 : Int)
  have N6 := Lib.hid (And.intro q6 M6)
  clear q6 M6
  go_upto_region 12 with fail
  generalize w5.setCell ⟨b, 9, none⟩ (.int .i64 (s.last + 1 : Int)) = w6 at *
  clear k9 f9
  have k9 : w6.cell? ⟨b, 9, none⟩ = some (.int .i64 (s.last + 1 : Int)) := N6.out.2.at_.cell rfl
  have k10 : w6.cell? ⟨b, 10, none⟩ = some (.map (some rb)) := N6.out.2.at_.cell rfl
  have hids : ∀ r ∈ s.L, r.id < (⟨s.last + 1, x, n⟩ : Reg).id := fun r hr => by have := (h0.idr r hr).2; simp only; omega
  have hll : s.L.length < maxLen := by have := h0.len_le; simp only [maxLen]; omega
  have hmu : ∀ k : Nat, ∃ w', (Instr.mapUpdate 81 (.map (some rb)) (.int .i64 (s.last + 1 : Int)) (.agg #[.int .i64 x, .int .i64 n])).run Try.prog (w6.drewN k) = .ok () w' ∧ RM w' rb (s.L ++ [⟨s.last + 1, x, n⟩]) ∧ Keep (· = rb) (w6.drewN k) w' := fun k => by
    have := ((N6.out.2.rm).keep (S := fun _ => False) ((Keep.refl _ w6).drewN k) (fun h => h)).add ⟨s.last + 1, x, n⟩ hids (by simp only; omega) hll
    simpa [regVal] using this
  obtain ⟨v0, u0, x0⟩ := hmu 0
  obtain ⟨v1, u1, x1⟩ := hmu 1
  obtain ⟨v2, u2, x2⟩ := hmu 2
  have X0 := Lib.hid x0
  have X1 := Lib.hid x1
  have X2 := Lib.hid x2
  clear hmu x0 x1 x2
  change (Instr.mapUpdate 81 (.map (some rb)) (.int .i64 (s.last + 1 : Int)) (.agg #[.int .i64 x, .int .i64 n])).run Try.prog w6 = .ok () v0 at u0
  change (Instr.mapUpdate 81 (.map (some rb)) (.int .i64 (s.last + 1 : Int)) (.agg #[.int .i64 x, .int .i64 n])).run Try.prog w6.drew = .ok () v1 at u1
  change (Instr.mapUpdate 81 (.map (some rb)) (.int .i64 (s.last + 1 : Int)) (.agg #[.int .i64 x, .int .i64 n])).run Try.prog w6.drew.drew = .ok () v2 at u2
  go_region
  have Y := N6.out.2.map X1.out.1 (((Keep.refl _ w6).drewN 1).trans X1.out.2)
  have k9 : v1.cell? ⟨b, 9, none⟩ = some (.int .i64 (s.last + 1 : Int)) := Y.at_.cell rfl
  have Y := Lib.hid Y
  clear u0 u1 u2
  go_wp2
  go_ret2
  have B3 := B3'.out
  obtain ⟨hcn3, hnew3, q3⟩ := H3.out
  obtain ⟨n4, q4, q5, -⟩ := N4.out
  obtain ⟨q6, -⟩ := N6.out
  have q7 : Keep (· = rb) w6 v1 := ((Keep.refl _ w6).drewN 1).trans X1.out.2
  obtain ⟨y1, y2, y3, y4, y5, y6, y7⟩ := Y.out
  have hlt := HL.out
  have q23 : Keep (fun k => k ∈ b :: rb :: (t.fp ++ cv.ownBlock.toList) ∨ mp = some k) w w3 := (Q2.out.mono fun _ e => .inr e).next q3 fun i hi hl => .inl (by
    rcases hi with e | e <;> simp [e])
  have hw3 : w.heap.size ≤ w3.heap.size := q23.size
  have q24 : Keep (fun k => k ∈ b :: rb :: (t.fp ++ cv.ownBlock.toList) ∨ mp = some k) w w4 := q23.next q4 fun i hi hl => .inl (by
    rcases hi with e | e <;> simp [e])
  have q25 := q24.next q5 (fun i hi hl => .inl (by simp [hi]))
  have q26 := q25.next q6 (fun i hi hl => .inl (by simp [hi]))
  have q27 := q26.next q7 (fun i hi hl => .inl (by simp [hi]))
  refine ⟨rfl, ?_, ⟨_, ⟨HA.out, t4, cv3, cn3, rb, ⟨?_, y2, y3, y4, fun p => ?_, y5, B3.cn1, B3.cn2, fun r hr => ?_, y6, y7⟩, rfl⟩, fun k hk => ?_⟩, q27⟩
  · -- the meter lies apart
    have hn : ∀ k, mp = some k → ¬ (k = b ∨ k ∈ t.fp ∨ cv.ownBlock = some k ∨ k = rb) := fun k hk e => by
      refine HFF.out k ?_ hk
      simp only [List.mem_cons, List.mem_append, Option.mem_toList]
      rcases e with e | e | e | e
      · exact .inl e
      · exact .inr (.inr (.inl e))
      · exact .inr (.inr (.inr e))
      · exact .inr (.inl e)
    have g3 := M2.out.keep q3 (fun k hk e => hn k hk (e.elim .inl fun e => .inr (.inr (.inl e))))
    have g4 := g3.keep q4 (fun k hk e => hn k hk (e.elim .inl fun e => .inr (.inl e)))
    have g5 := g4.keep q5 (fun k hk e => hn k hk (.inl e))
    have g6 := g5.keep q6 (fun k hk e => hn k hk (.inl e))
    exact g6.keep q7 (fun k hk e => hn k hk (.inr (.inr (.inr e))))
  · have e1 : (((s.add x n).size : Int) - ((s.add x n).used : Int)) = (s.size : Int) - s.used - n := by rw [AS.add_used]; simp only [AS.add]; omega
    have e2 : (((s.add x n).last : Nat) : Int) = (s.last : Int) + 1 := by simp [AS.add]
    rw [e1, e2]
    exact y1
  · rw [AS.add_fr, ← B3.fr p]
    obtain ⟨-, m2, m3⟩ := hmk4.out
    by_cases hp : p < t.size
    · rw [m3 p hp]
      by_cases h : x ≤ p ∧ p < x + n
      · rw [if_pos (by omega), if_pos h]
      · rw [if_neg (by omega), if_neg h]
    · rw [TR.free_out t4 p (by omega), TR.free_out t p (by omega)]
      split <;> rfl
  · simp only [AS.add, List.mem_append, List.mem_singleton] at hr
    rcases hr with hr | rfl
    · exact B3.cn3 r hr
    · exact hcn3
  · simp only [List.mem_cons, List.mem_append, Option.mem_toList] at hk
    rcases hk with e | e | e | e
    · exact .inl (by simp [e])
    · exact .inl (by simp [e])
    · rcases n4 k e with e | e
      · exact .inl (by simp [e])
      · exact .inr (by omega)
    · rcases hnew3 k e with e | e
      · exact .inl (by simp [e])
      · have := Q2.out.size
        exact .inr (by omega)

end Go.Proofs.Ytklknkeanmjhnaa.Arena
