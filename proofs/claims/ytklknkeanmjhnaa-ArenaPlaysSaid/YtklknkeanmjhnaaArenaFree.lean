/- Free of an arena. -/
import Derived.Test.YtklknkeanmjhnaaArenaDel
namespace Go.Proofs.Ytklknkeanmjhnaa.Arena
open Go.RowKit Go.Proofs.Ytklknkeanmjhnaa.Base Go.Proofs.Ytklknkeanmjhnaa.Stretch Go.Proofs.Ytklknkeanmjhnaa.Regs Go.Proofs.Ytklknkeanmjhnaa.Row Go.Proofs.Ytklknkeanmjhnaa.Meter

theorem free_nil (id : Int) (w : World) : Calls Try.prog 21 #[.pointer none, .int .i64 id] w fun e w' => e = .returned (.int .i64 9) ∧ Keep (fun _ => False) w w' := by
  go_enter Try.func21, Try.ntmps21
  go_wp2_with fail
  refine (find_nil _ _).mono ?_
  rintro e w1 ⟨rfl, q1⟩
  have Q1 := Lib.hid q1
  clear q1
  simp only [regVal]
  go_wp2
  go_ret
  exact ⟨rfl, Q1.out.alloc _⟩

theorem free_miss (b : Nat) (mp : Option Nat) (s : AS) (F : List Nat) (id : Int) (w : World) (h : Ar w b mp s F) (h1 : -9223372036854775808 ≤ id) (h2 : id ≤ 9223372036854775807) (hr : Regs.look s.L id = none) :
    Calls Try.prog 21 #[Arena.ptr b, .int .i64 id] w fun e w' => e = .returned (.int .i64 7) ∧ Keep (fun _ => False) w w' := by
  have hf := find_miss b mp s F id w h h1 h2 hr
  simp only [regVal] at hf
  clear h hr
  go_enter Try.func21, Try.ntmps21
  go_wp2_with fail
  refine hf.mono ?_
  rintro e w1 ⟨rfl, q1⟩
  have Q1 := Lib.hid q1
  clear q1 hf
  go_wp2
  go_ret
  exact ⟨rfl, Q1.out.alloc _⟩

theorem Drawn.r0 (w : World) : Drawn w w := ⟨0, rfl⟩
theorem Drawn.r1 (w : World) : Drawn w w.drew := ⟨1, rfl⟩
theorem Drawn.r2 (w : World) : Drawn w w.drew.drew := ⟨2, rfl⟩
theorem Drawn.r3 (w : World) : Drawn w w.drew.drew.drew := ⟨3, rfl⟩
theorem Drawn.r4 (w : World) : Drawn w w.drew.drew.drew.drew := ⟨4, rfl⟩

theorem Keep.undrawn {S : Nat → Prop} {w w1 w' : World} (d : Drawn w w1) (h : Keep S w1 w') : Keep S w w' := (d.keep S).trans h

theorem MkR.undrawn {b o : Nat} {t : TR} {p q : Int} {f : Bool} {w w1 w' : World} (d : Drawn w w1) (h : MkR b o t p q f w1 w') : MkR b o t p q f w w' := by
  obtain ⟨k, rfl⟩ := d
  obtain ⟨t', a1, a2, a3, a4, a5, a6⟩ := h
  exact ⟨t', a1, a2, a3, a4, a5, Keep.undrawn ⟨k, rfl⟩ a6⟩

/-- m numbers from lo on are noughts. -/
theorem At.setCells {g : Nat} {t : TypeId} : ∀ (m lo : Nat) (w : World) (cur : Array Value), At w g t cur → lo + m ≤ cur.size →
    ∃ cur', At (w.setCells g lo (List.replicate m (.int .i64 0))) g t cur' ∧ cur'.size = cur.size ∧ ∀ j, cur'[j]? = if lo ≤ j ∧ j < lo + m then some (.int .i64 0) else cur[j]?
  | 0, lo, w, cur, h, _ => ⟨cur, h, rfl, fun j => by rw [if_neg (by omega)]⟩
  | m + 1, lo, w, cur, h, hs => by
    obtain ⟨cur', h1, h2, h3⟩ := At.setCells m (lo + 1) (w.setCell ⟨g, lo, none⟩ (.int .i64 0)) _ (h.set lo _) (by simp; omega)
    refine ⟨cur', h1, by simpa using h2, fun j => ?_⟩
    rw [h3 j]
    by_cases h4 : lo + 1 ≤ j ∧ j < lo + 1 + m
    · rw [if_pos h4, if_pos (by omega)]
    · rw [if_neg h4]
      by_cases h5 : lo = j
      · subst h5
        rw [if_pos (by omega), Array.getElem?_setIfInBounds_self_of_lt (by omega)]
      · rw [Array.getElem?_setIfInBounds_ne h5, if_neg (by omega)]

theorem Keep.setCells {S : Nat → Prop} {a : World} {g : Nat} (hg : S g) : ∀ (vs : List Value) (lo : Nat) (w : World), Keep S a w → Keep S a (w.setCells g lo vs)
  | [], _, _, h => h
  | v :: vs, lo, _, h => Keep.setCells hg vs (lo + 1) _ (h.setCell (fun _ => hg) v)

theorem Row.wiped {w : World} {g n cap : Nat} {C : Nat → Int} (h : Row w (.slice (some ⟨g, 0, none⟩) n cap) n C) (lo m : Nat) (hm : lo + m ≤ n) :
    Row (w.setCells g lo (List.replicate m (.int .i64 0))) (.slice (some ⟨g, 0, none⟩) n cap) n (fun p => if lo ≤ p ∧ p < lo + m then 0 else C p) := by
  rcases h with ⟨h, _⟩ | ⟨g', cap', cur, e, ha, h1, h2, h3, h4⟩
  · cases h
  · cases e
    obtain ⟨cur', a1, a2, a3⟩ := At.setCells m lo w cur ha (by omega)
    refine .inr ⟨g, cap, cur', rfl, a1, h1, h2, by omega, fun j hj => ?_⟩
    rw [a3 j]
    by_cases h5 : lo ≤ j ∧ j < lo + m
    · simp only [if_pos h5]
    · simp only [if_neg h5]
      exact h4 j hj

theorem give_do (mp : Option Nat) (m : MS) (n : Int) (w : World) (hm : MO w mp m) (n0 : -9223372036854775808 ≤ n) (n1 : n ≤ 9223372036854775807) :
    Calls Try.prog 53 #[.pointer (mp.map fun b => ⟨b, 0, none⟩), .int .i64 n] w fun e w' => (∃ v, e = .returned (.bool v)) ∧ MO w' mp (giveO mp m n) ∧ Keep (fun k => mp = some k) w w' := by
  cases mp with
  | none => exact (give_nil n w).mono fun _ _ ⟨he, hw⟩ => by subst hw; exact ⟨⟨_, he⟩, trivial, Keep.refl _ _⟩
  | some mb => exact (give_any mb m n w hm.2 hm.1 n0 n1).mono fun _ _ ⟨he, h1, h2, _⟩ => ⟨⟨_, he⟩, ⟨h1, MS.give_ok hm.2 n⟩, h2.mono fun _ e => by rw [e]⟩

theorem zeroI (w : World) : (zeroValue 3).run Try.prog w = .ok (.int .i64 0) w := by kernel_rfl

set_option maxRecDepth 100000 in
set_option maxHeartbeats 1000000 in
theorem free_hit (b : Nat) (mp : Option Nat) (s : AS) (F : List Nat) (m : MS) (id : Int) (r : Reg) (w : World) (h : Ar w b mp s F) (hm : MO w mp m) (hF : ∀ k, mp = some k → k ∉ F) (h1 : -9223372036854775808 ≤ id) (h2 : id ≤ 9223372036854775807) (hr : Regs.look s.L id = some r) :
    Calls Try.prog 21 #[Arena.ptr b, .int .i64 id] w (Did w b mp F (.int .i64 0) (s.del r) (giveO mp m r.n)) := by
  have hf := find_hit b mp s F id r w h h1 h2 hr
  simp only [regVal] at hf
  have hA := Lib.hid h
  have hM := Lib.hid hm
  obtain ⟨hr1, hr2⟩ := look_mem hr
  obtain ⟨hn1, hn2⟩ := h.1.reg r hr1
  have hz := h.1.sz
  subst hr2
  clear h hm hr
  go_enter Try.func21, Try.ntmps21
  go_wp2_with fail
  refine hf.mono ?_
  rintro e w1 ⟨rfl, q1⟩
  have A1 := hA.out.none q1
  obtain ⟨h0, t, cv, cn, rb, hB, hFe⟩ := A1
  have hc := hB.cn3 r hr1
  obtain ⟨g, cap, rfl, -, -, hcap, hmax⟩ := Row.at hB.row (p := r.base) (by omega)
  have q2 : Keep (fun _ => False) w1 (w1.alloc (.cells #[.int .i64 r.base, .int .i64 r.n] 89)) := (Keep.refl _ w1).alloc _
  have B2 := hB.keep q2 (fun _ _ h => h)
  have a2 := At.new w1 #[.int .i64 r.base, .int .i64 r.n] 89
  have n2 : w1.heap.size < (w1.alloc (.cells #[.int .i64 r.base, .int .i64 r.n] 89)).heap.size := by simp
  have hbn : b < w1.heap.size := hB.at_.lt
  have hgn : g < w1.heap.size := hB.row.lt rfl
  have HTL := Lib.hid (And.intro hB.tr.lt hB.rm.lt)
  have X := Lib.hid (And.intro q1 (And.intro q2 (And.intro hFe (And.intro B2 (And.intro a2 n2)))))
  clear q1 q2 hFe B2 a2 n2 hB hf
  go_upto_region 4 with fail
  generalize hW : w1.alloc (.cells #[.int .i64 r.base, .int .i64 r.n] 89) = w2 at *
  obtain ⟨-, -, -, B2, a2, -⟩ := X.out
  have hrow : ∀ j, j < r.n → (w2.cell? ⟨g, r.base + j, none⟩).isSome = true := fun j hj => by
    obtain ⟨g', cap', e, hc', -⟩ := Row.at B2.row (p := r.base + j) (by omega)
    cases e
    rw [hc']
    rfl
  have hfz : ∀ j, j < r.n → w2.frozen? ⟨g, r.base + j, none⟩ = false := fun j hj => by
    obtain ⟨g', cap', e, -, hc', -⟩ := Row.at B2.row (p := r.base + j) (by omega)
    cases e
    exact hc'
  have hcl : ∀ ty, (Builtin.clear_ #[32] ty #[.slice (some ⟨g, r.base, none⟩) r.n (cap - r.base)]).run Try.prog w2.drew = .ok (.tuple #[]) (w2.drew.setCells g r.base (List.replicate r.n (.int .i64 0))) :=
    fun ty => Lib.run_clear_slice w2.drew 32 3 ty (.int .i64 0) Try.underlying32 zeroI rfl rfl g r.base r.n (cap - r.base) (by omega) hrow hfz
  clear hrow hfz
  have k1 : w2.cell? ⟨b, 1, none⟩ = some (.slice (some ⟨g, 0, none⟩) cn cap) := B2.at_.cell rfl
  have c0 : w2.cell? ⟨w1.heap.size, 0, none⟩ = some (.int .i64 r.base) := a2.cell rfl
  have c1 : w2.cell? ⟨w1.heap.size, 1, none⟩ = some (.int .i64 r.n) := a2.cell rfl
  clear B2 a2
  have hW := Lib.hid hW
  go_region
  obtain ⟨q1, q2, hFe, B2, a2, n2⟩ := X.out
  obtain ⟨d1, d2, d3, d4, d5, d6, d7⟩ := B2.mid.parts
  have hg0 : ∀ k, Value.ownBlock (.slice (some ⟨g, 0, none⟩) cn cap) = some k ↔ g = k := fun k => by simp [Value.ownBlock]
  rw [hg0] at d3 d5
  have d8 : ∀ k ∈ t.fp, ¬ k = g := fun k hk e => d7 k hk (by rw [hg0]; exact e.symm)
  have q3 : Keep (· = g) w2 (w2.drew.setCells g r.base (List.replicate r.n (.int .i64 0))) := Keep.setCells (S := (· = g)) rfl _ _ _ ((Keep.refl (· = g) w2).drew)
  have R3 := Row.wiped (w := w2.drew) (B2.row.keep (S := fun _ => False) ((Keep.refl _ w2).drew) (fun _ _ h => h)) r.base r.n hc
  have M3 : ArM (w2.drew.setCells g r.base (List.replicate r.n (.int .i64 0))) b mp s (fun p => if r.base ≤ p ∧ p < r.base + r.n then 0 else s.C p) t (.slice (some ⟨g, 0, none⟩) cn cap) cn rb (s.size - s.used) s.last s.L :=
    ⟨B2.at_.keep q3 (fun e => d3 e.symm), Tr.keep q3 B2.tr (fun e => d3 e.symm) (fun k hk => d8 k hk), B2.ok, B2.sz, R3, B2.rm.keep q3 (fun e => d5 e.symm), B2.dup⟩
  have a3 := a2.keep q3 (fun e => by have e : w1.heap.size = g := e; omega)
  have Y := Lib.hid (And.intro q3 (And.intro M3 a3))
  have HB2 := Lib.hid B2
  have HQ := Lib.hid (And.intro (q1.trans q2) hFe)
  clear q1 q2 hFe B2 a2 n2 R3 hcl k1 c0 c1 q3 M3 a3 X
  go_upto_region 5 with fail
  generalize w2.drew.setCells g r.base (List.replicate r.n (.int .i64 0)) = w3 at *
  have hmk : ∀ W, Drawn w3 W → Calls Try.prog 50 #[np b 2, .int .i64 r.base, .int .i64 (r.base + r.n : Int), .bool true] W fun e w' => e = .returned (.tuple #[]) ∧ MkR b 2 t r.base (r.base + r.n : Int) true w3 w' := fun W d => by
    have M3 := Y.out.2.1
    have hsz := M3.sz
    refine (mark_any t b 2 (r.base : Int) (r.base + r.n : Int) true W M3.ok (by omega) (M3.tr.drawn d) ?_ (by omega) (by omega) (by omega) (by omega) (by omega)).mono fun e w' h => ⟨h.1, MkR.undrawn d h.2⟩
    have := M3.dup
    simp only [List.nodup_cons, List.mem_cons, List.mem_append, not_or, List.nodup_append] at this ⊢
    exact ⟨this.1.2.1, this.2.2.1⟩
  have HMK := Lib.hid hmk
  have c0 : w3.cell? ⟨w1.heap.size, 0, none⟩ = some (.int .i64 r.base) := Y.out.2.2.cell rfl
  have c1 : w3.cell? ⟨w1.heap.size, 1, none⟩ = some (.int .i64 r.n) := Y.out.2.2.cell rfl
  have hw : IntKind.i64.wrap ((r.base : Int) + r.n) = (r.base : Int) + r.n := by rw [IntKind.wrap_i64]; omega
  clear hmk
  go_cut [] from 15 (fun wx => MkR b 2 t r.base (r.base + r.n : Int) true w3 wx)
  case first =>
    go_region_with (go_at_call 50; refine (HMK.out _ (by first | exact Drawn.r0 _ | exact Drawn.r1 _ | exact Drawn.r2 _ | exact Drawn.r3 _ | exact Drawn.r4 _)).mono ?_; rintro e w4 ⟨rfl, m4⟩)
    all_goals
      go_wp2_with fail
      go_meet
      case rel => exact m4
  case rest =>
    obtain ⟨q3, M3, a3⟩ := Y.out
    obtain ⟨t4, mk4, M4, n4, q4⟩ := M3.mark hcut
    have htl := HTL.out
    have nt : ¬ (w1.heap.size = b ∨ w1.heap.size ∈ t.fp) := by
      rintro (e | e)
      · omega
      · have := htl.1 _ e; omega
    have a4 := a3.keep q4 nt
    have c1 : wc.cell? ⟨w1.heap.size, 1, none⟩ = some (.int .i64 r.n) := a4.cell rfl
    have k8 : wc.cell? ⟨b, 8, none⟩ = some (.int .i64 (s.size - s.used : Int)) := M4.at_.cell rfl
    have f8 := M4.at_.frozen 8
    have hb4 := M4.at_.lt
    have ht4 := a4.lt
    obtain ⟨M5, q5⟩ := M4.left (s.size - s.used + r.n : Int)
    have hus := h0.used_le
    have nb : ¬ w1.heap.size = b := by omega
    have a5 := a4.keep q5 nb
    have Z := Lib.hid (And.intro q3 (And.intro mk4 (And.intro n4 (And.intro q4 (And.intro q5 (And.intro M5 a5))))))
    clear q3 M3 a3 hcut mk4 M4 n4 q4 a4 M5 q5 htl a5 c0 hw
    go_upto_region 6 with fail
    go_region
    generalize hW5 : (wc.setCell ⟨b, 8, none⟩ (.int .i64 (s.size - s.used + r.n : Int))).drew = w5 at *
    have d5 : Drawn (wc.setCell ⟨b, 8, none⟩ (.int .i64 (s.size - s.used + r.n : Int))) w5 := ⟨1, hW5.symm⟩
    obtain ⟨q3, mk4, n4, q4, q5, M5, a5⟩ := Z.out
    have q45 : Keep (· = b) wc w5 := q5.trans (d5.keep _)
    have M5 := M5.none (d5.keep _)
    have a5 := a5.drawn d5
    have k10 : w5.cell? ⟨b, 10, none⟩ = some (.map (some rb)) := M5.at_.cell rfl
    have hown : w5.ownsMap Try.prog 3 regR rb s.L.length (DL s.L) := M5.rm
    have hkey := keyOf_id h1 h2
    have V := Lib.hid (And.intro q3 (And.intro mk4 (And.intro n4 (And.intro q4 (And.intro q45 (And.intro M5 a5))))))
    have HW5 := Lib.hid hW5
    clear q3 mk4 n4 q4 q45 q5 M5 a5 d5 Z hW5 k8 f8 c1
    go_wp2_with (at_delete; refine wpList_delete_own _ rfl _ _ 81 3 rfl 89 law Try.underlying81 _ rb _ _ rfl hown _ _ rfl hkey ?_; intro w6 hown6 hturn6)
    have V := V.out
    obtain ⟨q3, mk4, n4, q4, q45, M5, a5⟩ := V
    have q6 : Keep (· = rb) w5 w6 := keep_grown hturn6.grown
    rw [del_DL] at hown6
    have rm6 : RM w6 rb (s.del r).L := RM.of hown6
    have M6 := M5.map rm6 q6
    have nt : ¬ w1.heap.size = rb := by have := HTL.out.2; omega
    have a6 := a5.keep q6 nt
    obtain ⟨q02, hFe⟩ := HQ.out
    have B2 := HB2.out
    have q : Keep (· ∈ F) w w6 := by
      have e2 := (q02.mono (T := (· ∈ F)) fun _ h => h.elim).next q3 (fun i hi _ => by rw [hFe]; simp [hi, Value.ownBlock])
      have e3 := e2.next q4 (fun i hi _ => by rw [hFe]; rcases hi with e | e <;> simp [e])
      have e4 := e3.next q45 (fun i hi _ => by rw [hFe]; simp [hi])
      exact e4.next q6 (fun i hi _ => by rw [hFe]; simp [hi])
    have hm6 : MO w6 mp m := hM.out.keep q hF
    have hgv : ∀ W, Drawn w6 W → Calls Try.prog 53 #[.pointer (mp.map fun b => ⟨b, 0, none⟩), .int .i64 r.n] W fun e w' => (∃ v, e = .returned (.bool v)) ∧ MO w' mp (giveO mp m r.n) ∧ Keep (fun k => mp = some k) w6 w' := fun W d =>
      (give_do mp m r.n W (hm6.keep (d.keep (fun _ => False)) (fun _ _ => id)) (by omega) (by omega)).mono fun _ _ h => ⟨h.1, h.2.1, Keep.undrawn d h.2.2⟩
    have k0 : w6.cell? ⟨b, 0, none⟩ = some (.pointer (mp.map fun b => ⟨b, 0, none⟩)) := M6.at_.cell rfl
    have c1 : w6.cell? ⟨w1.heap.size, 1, none⟩ = some (.int .i64 r.n) := a6.cell rfl
    have FIN : Did w b mp F (.int .i64 0) (s.del r) m (.returned (.int .i64 0)) w6 := by
      have hw3 : w.heap.size ≤ w3.heap.size := Nat.le_trans q02.size q3.size
      obtain ⟨y1, y2, y3, y4, y5, y6, y7⟩ := M6
      refine ⟨rfl, hm6, ⟨_, ⟨AS.del_ok h0 hr1, t4, .slice (some ⟨g, 0, none⟩) cn cap, cn, rb, ⟨?_, y2, y3, y4, fun p => ?_, y5, B2.cn1, fun p hp => ?_, fun x hx => B2.cn3 x (mem_del.1 hx).1, y6, y7⟩, rfl⟩, fun k hk => ?_⟩, q.mono fun _ h => .inl h⟩
      · have e1 : (((s.del r).size : Int) - ((s.del r).used : Int)) = (s.size : Int) - s.used + r.n := by have := AS.del_used h0 hr1; simp only [AS.del] at this ⊢; omega
        rw [e1]
        exact y1
      · rw [AS.del_fr h0 hr1, ← B2.fr p]
        obtain ⟨-, m2, m3⟩ := mk4
        have hsz := B2.sz
        by_cases hp : p < t.size
        · rw [m3 p hp]
          by_cases hc : r.base ≤ p ∧ p < r.base + r.n
          · rw [if_pos (by omega), if_pos hc]
          · rw [if_neg (by omega), if_neg hc]
        · rw [TR.free_out t4 p (by omega), TR.free_out t p (by omega), if_neg (by omega)]
      · have := B2.cn2 p hp
        simp only [AS.del]
        split
        · rfl
        · exact this
      · simp only [List.mem_cons, List.mem_append, Option.mem_toList] at hk
        rcases hk with e | e | e | e
        · exact .inl (by rw [hFe]; simp [e])
        · exact .inl (by rw [hFe]; simp [e])
        · rcases n4 k e with e | e
          · exact .inl (by rw [hFe]; simp [e])
          · exact .inr (by omega)
        · exact .inl (by rw [hFe]; simp [e])
    have HFIN := Lib.hid FIN
    have HGV := Lib.hid hgv
    have hb6 := M6.at_.lt
    have ht6 := a6.lt
    clear V q3 mk4 n4 q4 q45 M5 a5 q6 hown6 hturn6 rm6 M6 a6 q02 hFe B2 q hm6 hgv FIN HW5 hown k10 hkey
    simp only [Act.put]
    go_region_with (go_at_call 53; refine (HGV.out _ (by first | exact Drawn.r0 _ | exact Drawn.r1 _ | exact Drawn.r2 _ | exact Drawn.r3 _ | exact Drawn.r4 _)).mono ?_; rintro e w7 ⟨⟨v, rfl⟩, m7, q7⟩)
    all_goals
      go_wp2
      go_ret
      obtain ⟨-, f1, ⟨F', f2, f3⟩, f4⟩ := HFIN.out
      have hn : ∀ k ∈ F', ¬ mp = some k := fun k hk e => by
        rcases f3 k hk with h | h
        · exact hF k e h
        · have hM := hM.out
          rw [e] at hM
          have := hM.1.lt
          omega
      exact ⟨rfl, m7, ⟨F', f2.keep q7 hn, f3⟩, f4.trans (q7.mono fun _ e => .inr e)⟩

end Go.Proofs.Ytklknkeanmjhnaa.Arena
