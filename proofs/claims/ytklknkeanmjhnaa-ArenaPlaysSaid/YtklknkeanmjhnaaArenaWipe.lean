/- Wipe of an arena. -/
import Derived.Test.YtklknkeanmjhnaaArenaFree
import Derived.Test.YtklknkeanmjhnaaIds
import Derived.Deep.DeepCutAuto
import Derived.Deep.CutBlock
import Derived.Deep.LoopGhost
namespace Go.Proofs.Ytklknkeanmjhnaa.Arena
open Go.RowKit Go.Proofs.Ytklknkeanmjhnaa.Base Go.Proofs.Ytklknkeanmjhnaa.Stretch Go.Proofs.Ytklknkeanmjhnaa.Regs Go.Proofs.Ytklknkeanmjhnaa.Row Go.Proofs.Ytklknkeanmjhnaa.Meter Go.Proofs.Ytklknkeanmjhnaa.Lists Go.Proofs.Ytklknkeanmjhnaa.Ids

/-- What the meter is behind: each region's cells are given back, in the order of their numbers. -/
def giveAll (mp : Option Nat) (m : MS) (L : List Reg) : MS := L.foldl (fun m r => giveO mp m r.n) m

def AS.wipe (s : AS) : AS := { s with L := [], C := fun _ => 0 }

theorem AS.wipe_ok {s : AS} (h : s.Ok) : s.wipe.Ok :=
  ⟨h.sz, h.la, List.Pairwise.nil, fun r hr => by simp [AS.wipe] at hr, fun r hr => by simp [AS.wipe] at hr, List.Pairwise.nil, fun _ _ => rfl⟩

theorem wipe_fr (s : AS) (p : Nat) : s.wipe.fr p = decide (p < s.size) := by
  unfold AS.fr AS.wipe
  simp

/-- What was given back by k regions. -/
def sumN (L : List Reg) (k : Nat) : Nat := ((L.take k).map (·.n)).sum

theorem sumN_next {L : List Reg} {k : Nat} {r : Reg} (h : L[k]? = some r) : sumN L (k + 1) = sumN L k + r.n := by
  unfold sumN
  rw [List.take_add_one, h]
  simp

theorem sumN_le (L : List Reg) (k : Nat) : sumN L k ≤ (L.map (·.n)).sum := by
  unfold sumN
  have : (L.map (·.n)).sum = ((L.take k).map (·.n)).sum + ((L.drop k).map (·.n)).sum := by
    rw [← List.sum_append, ← List.map_append, List.take_append_drop]
  omega

theorem giveAll_next {mp : Option Nat} {m : MS} {L : List Reg} {k : Nat} {r : Reg} (h : L[k]? = some r) : giveAll mp m (L.take (k + 1)) = giveO mp (giveAll mp m (L.take k)) r.n := by
  unfold giveAll
  rw [List.take_add_one, h]
  simp

theorem look_self {L : List Reg} (h : L.Pairwise fun a b => a.id < b.id) {r : Reg} (hr : r ∈ L) : Regs.look L r.id = some r := by
  unfold Regs.look
  induction L with
  | nil => simp at hr
  | cons x L ih =>
    rw [List.pairwise_cons] at h
    rw [List.find?_cons]
    rcases List.mem_cons.1 hr with rfl | hr
    · simp
    · have := h.1 r hr
      rw [show decide ((x.id : Int) = r.id) = false from by simp; omega]
      exact ih h.2 hr

theorem ArM.keepS {S : Nat → Prop} {w w' : World} {b : Nat} {mp : Option Nat} {s : AS} {C : Nat → Int} {t : TR} {cv : Value} {cn rb : Nat} {l a : Int} {L : List Reg} (h : ArM w b mp s C t cv cn rb l a L) (q : Keep S w w') (hn : ∀ k ∈ b :: rb :: (t.fp ++ cv.ownBlock.toList), ¬ S k) : ArM w' b mp s C t cv cn rb l a L := by
  obtain ⟨h1, h2, h3, h4, h5, h6, h7⟩ := h
  exact ⟨h1.keep q (hn b (by simp)), Tr.keep q h2 (hn b (by simp)) (fun k hk => hn k (by simp [hk])), h3, h4, h5.keep q (fun g hg => hn g (by simp [hg])), h6.keep q (hn rb (by simp)), h7⟩

/-- clear of a whole row. -/
theorem Row.clear {w : World} {v : Value} {n : Nat} {C : Nat → Int} (h : Row w v n C) : ∃ w', (∀ ty, (Builtin.clear_ #[32] ty #[v]).run Try.prog w = .ok (.tuple #[]) w') ∧ Row w' v n (fun _ => 0) ∧ Keep (fun k => v.ownBlock = some k) w w' := by
  rcases Nat.eq_zero_or_pos n with rfl | hn
  · refine ⟨w, fun ty => ?_, h.congr (fun j hj => by omega), Keep.refl _ _⟩
    rcases h with ⟨rfl, _⟩ | ⟨g, cap, cur, rfl, ha, h1, h2, h3, h4⟩
    · simp [Builtin.clear_, run_underlying (P := Try.prog) Try.underlying32]
    · simp [Builtin.clear_, run_underlying (P := Try.prog) Try.underlying32]
  · obtain ⟨g, cap, rfl, -⟩ := Row.at h hn
    have hc : ∀ j, j < n → (w.cell? ⟨g, 0 + j, none⟩).isSome = true ∧ w.frozen? ⟨g, 0 + j, none⟩ = false := fun j hj => by
      obtain ⟨g', cap', e, hc', hf, -⟩ := Row.at h hj
      cases e
      rw [Nat.zero_add, hc']
      exact ⟨rfl, hf⟩
    refine ⟨_, fun ty => Lib.run_clear_slice w 32 3 ty (.int .i64 0) Try.underlying32 zeroI rfl rfl g 0 n cap hn (fun j hj => (hc j hj).1) (fun j hj => (hc j hj).2), ?_, Keep.setCells (S := fun k => Value.ownBlock (.slice (some ⟨g, 0, none⟩) n cap) = some k) rfl _ _ _ (Keep.refl _ w)⟩
    exact (Row.wiped h 0 n (by omega)).congr (fun j hj => by rw [if_pos (by omega)])

/-- On the way: k regions' cells are given back. -/
structure WM (w : World) (b : Nat) (mp : Option Nat) (s : AS) (F : List Nat) (t : TR) (cv : Value) (cn rb : Nat) (m : MS) (v : Value) (k : Nat) (w' : World) : Prop where
  am : ArM w' b mp s s.C t cv cn rb ((s.size : Int) - s.used + sumN s.L k) s.last s.L
  mo : MO w' mp (giveAll mp m (s.L.take k))
  il : IL w' v (ids s.L)
  vf : ∀ g, v.ownBlock = some g → w.heap.size ≤ g
  q : Keep (fun i => i ∈ F ∨ mp = some i) w w'

theorem wipe_nil (w : World) : Calls Try.prog 26 #[.pointer none] w fun e w' => e = .returned (.tuple #[]) ∧ w = w' := by
  go_enter Try.func26, Try.ntmps26
  go_wp2
  refine bodyPost_ret (results_none rfl _ _ _) rfl ?_
  exact ⟨rfl, rfl⟩

set_option maxRecDepth 100000 in
set_option maxHeartbeats 1000000 in
theorem wipe_any (b : Nat) (mp : Option Nat) (s : AS) (F : List Nat) (m : MS) (w : World) (h : Ar w b mp s F) (hm : MO w mp m) (hF : ∀ k, mp = some k → k ∉ F) :
    Calls Try.prog 26 #[Arena.ptr b] w (Did w b mp F (.tuple #[]) s.wipe (giveAll mp m s.L)) := by
  have hlt := h.lt
  obtain ⟨h0, t, cv, cn, rb, hB, hFe⟩ := h
  have hlen := h0.len_le
  have hsz := h0.sz
  have hus := h0.used_le
  have k10 : w.cell? ⟨b, 10, none⟩ = some (.map (some rb)) := hB.at_.cell rfl
  have hso := Lib.hid (Ids.sorted_any rb s.L w hB.rm h0.ids (by omega))
  have X := Lib.hid (And.intro hlt (And.intro hFe (And.intro hB hm)))
  have H0 := Lib.hid h0
  clear hlt hFe hB hm
  go_enter Try.func26, Try.ntmps26
  go_wp2_with fail
  refine (keys_any rb _).mono ?_
  rintro e w1 ⟨rfl, rfl⟩
  go_wp2_with fail
  refine hso.out.mono ?_
  rintro e w2 ⟨v, rfl, i2, f2, q2⟩
  obtain ⟨hlt, hFe, hB, hm⟩ := X.out
  have W0 : WM w b mp s F t cv cn rb m v 0 w2 := ⟨by simpa [sumN] using hB.mid.none q2, by simpa [giveAll] using hm.keep q2 (fun _ _ => id), i2, f2, q2.mono fun _ h => h.elim⟩
  obtain ⟨a, cap, rfl, -⟩ := i2.form
  have hil : (ids s.L).length = s.L.length := by simp [ids]
  rw [hil] at W0 ⊢
  clear hil i2 f2 q2 hB hm k10 hlt hFe
  go_wp2_with fail
  go_loopg [14] s.L.length (fun gg i wr => ∃ k : Nat, k + gg = s.L.length ∧ i = .int .i64 k ∧ WM w b mp s F t cv cn rb m (.slice a s.L.length cap) k wr)
  case atStart => exact ⟨0, Nat.zero_add _, rfl, W0⟩
  case round =>
    obtain ⟨k, hk, rfl, hW⟩ := hrel
    by_cases hlt : k < s.L.length
    · obtain ⟨r, hx⟩ : ∃ r, s.L[k]? = some r := ⟨_, List.getElem?_eq_getElem hlt⟩
      have hrm : r ∈ s.L := List.mem_of_getElem? hx
      obtain ⟨hn1, hn2⟩ := H0.out.reg r hrm
      obtain ⟨hi1, hi2⟩ := H0.out.idr r hrm
      have hla := H0.out.la
      have hsum : sumN s.L k + r.n ≤ s.used := by
        rw [← sumN_next hx]
        exact sumN_le s.L (k + 1)
      obtain ⟨hM, ho, hil', hvf, hq⟩ := hW
      obtain ⟨a', cap', e1, hc⟩ := hil'.form
      injection e1 with e1 e3 e2
      clear e3
      subst e1
      subst e2
      obtain ⟨g, -, rfl, c0⟩ := hc k r.id (by unfold ids; rw [List.getElem?_map, hx]; rfl)
      clear hc
      have hlk := hM.rm.look (id := r.id) (by omega) (by omega)
      rw [look_self H0.out.ids hrm] at hlk
      simp only [regVal] at hlk
      clear hla hi1 hi2
      obtain ⟨lf, hlf⟩ : ∃ lf : Int, lf = (s.size : Int) - s.used + sumN s.L k := ⟨_, rfl⟩
      rw [← hlf] at hM
      have hl0 : 0 ≤ lf := by omega
      have hl1 : lf + r.n ≤ 1048576 := by omega
      have hl2 : lf + r.n = (s.size : Int) - s.used + sumN s.L (k + 1) := by rw [sumN_next hx]; omega
      have k10 : wr.cell? ⟨b, 10, none⟩ = some (.map (some rb)) := hM.at_.cell rfl
      have hlt' : (k : Int) < s.L.length := by omega
      have q1 : Keep (fun _ => False) wr (wr.alloc (.cells #[.int .i64 r.base, .int .i64 r.n] 89)) := (Keep.refl _ wr).alloc _
      have M1 := hM.none q1
      have a1 := At.new wr #[.int .i64 r.base, .int .i64 r.n] 89
      have hbl := hM.at_.lt
      obtain ⟨M2, q2⟩ := M1.left (lf + r.n)
      have a2 := a1.keep q2 (by omega)
      have Y := Lib.hid (And.intro ho (And.intro hil' (And.intro hvf (And.intro hq (And.intro q1 (And.intro q2 (And.intro M2 (And.intro a2 (And.intro M1 a1)))))))))
      have HX := Lib.hid (And.intro hx (And.intro hl2 hlf))
      clear ho hil' hvf hq q1 q2 M2 a2 hx hl2 hlf hM M1 a1 hrm
      go_upto_region 5 with fail
      generalize hW1 : wr.alloc (.cells #[.int .i64 r.base, .int .i64 r.n] 89) = W1 at *
      have c8 : W1.cell? ⟨b, 8, none⟩ = some (.int .i64 lf) := Y.out.2.2.2.2.2.2.2.2.1.at_.cell rfl
      have f8 := Y.out.2.2.2.2.2.2.2.2.1.at_.frozen 8
      have c1 : W1.cell? ⟨wr.heap.size, 1, none⟩ = some (.int .i64 r.n) := Y.out.2.2.2.2.2.2.2.2.2.cell rfl
      have HW1 := Lib.hid hW1
      clear hW1 k10 c0
      go_region
      generalize hW2 : (W1.setCell ⟨b, 8, none⟩ (.int .i64 (lf + r.n))).drew = W2 at *
      have d2 : Drawn (W1.setCell ⟨b, 8, none⟩ (.int .i64 (lf + r.n))) W2 := ⟨1, hW2.symm⟩
      obtain ⟨ho, hil', hvf, hq, q1, q2, M2, a2, -, -⟩ := Y.out
      have M3 := M2.none (d2.keep _)
      have a3 := a2.drawn d2
      have q3 : Keep (fun i => i = b) wr W2 := (q1.mono fun _ h => h.elim).trans (q2.trans (d2.keep _))
      obtain ⟨hlt0, hFe, hB, hm⟩ := X.out
      have hqw : Keep (fun i => i ∈ F ∨ mp = some i) w W2 := hq.next q3 (fun i hi _ => by subst hi; left; rw [hFe]; simp)
      have hmb : ∀ k, mp = some k → k ≠ b := fun k hk e => hF k hk (by rw [hFe, e]; simp)
      have ho3 : MO W2 mp (giveAll mp m (s.L.take k)) := ho.keep q3 hmb
      have hwb : b < w.heap.size := hB.at_.lt
      have hil3 := hil'.keep q3 (fun g hg e => by have := hvf g hg; omega)
      have hgv : ∀ W, Drawn W2 W → Calls Try.prog 53 #[.pointer (mp.map fun b => ⟨b, 0, none⟩), .int .i64 r.n] W fun e w' => (∃ v, e = .returned (.bool v)) ∧ MO w' mp (giveO mp (giveAll mp m (s.L.take k)) r.n) ∧ Keep (fun k => mp = some k) W2 w' := fun W d =>
        (give_do mp _ r.n W (ho3.keep (d.keep (fun _ => False)) (fun _ _ => id)) (by omega) (by omega)).mono fun _ _ h => ⟨h.1, h.2.1, Keep.undrawn d h.2.2⟩
      have HGV := Lib.hid hgv
      have k0 : W2.cell? ⟨b, 0, none⟩ = some (.pointer (mp.map fun b => ⟨b, 0, none⟩)) := M3.at_.cell rfl
      have c1 : W2.cell? ⟨wr.heap.size, 1, none⟩ = some (.int .i64 r.n) := a3.cell rfl
      have V := Lib.hid (And.intro M3 (And.intro hqw (And.intro hil3 hvf)))
      clear ho hil' hvf hq q1 q2 M2 a2 M3 a3 q3 hlt0 hFe hB hm hqw hmb ho3 hil3 hgv hwb hW2 d2 Y c8 f8 hlk
      go_upto_region 6 with fail
      go_region_with (go_at_call 53; refine (HGV.out _ (by first | exact Drawn.r0 _ | exact Drawn.r1 _ | exact Drawn.r2 _ | exact Drawn.r3 _ | exact Drawn.r4 _)).mono ?_; rintro e w7 ⟨⟨v, rfl⟩, m7, q7⟩)
      all_goals
        have M7 := Lib.hid (And.intro m7 q7)
        clear m7 q7
        go_wp2_with fail
        go_roundg (gk - 1)
        case measure => omega
        case rel =>
          obtain ⟨m7, q7⟩ := M7.out
          obtain ⟨M3, hqw, hil3, hvf⟩ := V.out
          obtain ⟨hx, hl2, hlf⟩ := HX.out
          obtain ⟨hlt0, hFe, hB, hm⟩ := X.out
          refine ⟨k + 1, by omega, by go_num, ?_, ?_, hil3.keep q7 (fun g hg e => ?_), hvf, hqw.next q7 (fun i hi _ => .inr hi)⟩
          · rw [← hl2]
            exact M3.keepS q7 (fun i hi e => hF i e (by rw [hFe]; exact hi))
          · rw [giveAll_next hx]
            exact m7
          · have h5 := hvf g hg
            cases mp with
            | none => cases e
            | some mb =>
              have e2 : some mb = some g := e
              injection e2 with e2
              have := hm.1.lt
              omega
    · obtain rfl : k = s.L.length := by omega
      obtain ⟨hM, ho, -, -, hq⟩ := hW
      have hsum : sumN s.L s.L.length = s.used := by unfold sumN AS.used; rw [List.take_length]
      rw [List.take_length] at ho
      have hlf : ((s.size : Int) - s.used + sumN s.L s.L.length) = s.size := by rw [hsum]; omega
      rw [hlf] at hM
      have hf : ¬ ((s.L.length : Int) < s.L.length) := by omega
      have k10 : wr.cell? ⟨b, 10, none⟩ = some (.map (some rb)) := hM.at_.cell rfl
      obtain ⟨w6, hclr, rm6, q6⟩ := hM.rm.clear 0
      have M6 := hM.map rm6 q6
      obtain ⟨base, cap1, rfl⟩ := Row.shape M6.row
      have k1 : w6.cell? ⟨b, 1, none⟩ = some (.slice base cn cap1) := M6.at_.cell rfl
      obtain ⟨w7, hclc, row7, q7⟩ := Row.clear M6.row
      obtain ⟨d1, d2, d3, d4, d5, d6, d7⟩ := M6.parts
      have M7 : ArM w7 b mp s (fun _ => 0) t (.slice base cn cap1) cn rb s.size s.last [] :=
        ⟨M6.at_.keep q7 d3, Tr.keep q7 M6.tr d3 (fun k hk => d7 k hk), M6.ok, M6.sz, row7, M6.rm.keep q7 d5, M6.dup⟩
      have hfill := Lib.hid (fill_any b 2 t.nv true w7 M7.tr.nd)
      have Y := Lib.hid (And.intro ho (And.intro hq (And.intro q6 (And.intro q7 M7))))
      clear ho hq q6 q7 M7 M6 rm6 hM row7 d1 d2 d3 d4 d5 d6 d7 hsum hlf W0 hso
      go_wp2_with fail
      refine hfill.out.mono ?_
      rintro e w8 ⟨rfl, n8, s8, q8, z8⟩
      obtain ⟨ho, hq, q6, q7, M7⟩ := Y.out
      obtain ⟨hlt0, hFe, hB, hm⟩ := X.out
      have mk : MkR b 2 t 0 t.size true w7 w8 :=
        ⟨.leaf t.size true, ⟨trivial, rfl, fun i hi => by rw [if_pos (by omega)]; simp [TR.free, hi]⟩, n8, by simp [TR.fp], fun k hk => by simp [TR.fp] at hk, s8, q8.mono fun _ h => .inl h⟩
      obtain ⟨t8, mk8, M8, n8', q8'⟩ := M7.mark mk
      have hkeep : Keep (fun i => i ∈ F ∨ mp = some i) w w8 := by
        have e1 := hq.next q6 (fun i hi _ => by left; rw [hFe, hi]; simp)
        have e2 := e1.next q7 (fun i hi _ => by left; rw [hFe]; simp [hi])
        exact e2.next q8' (fun i hi _ => by left; rw [hFe]; rcases hi with e | e <;> simp [e])
      have hmo : MO w8 mp (giveAll mp m s.L) := by
        have hn : ∀ k, mp = some k → k ≠ b ∧ k ≠ rb ∧ k ∉ t.fp ∧ ¬ Value.ownBlock (.slice base cn cap1) = some k := fun k hk => by
          have := hF k hk
          rw [hFe] at this
          simp only [List.mem_cons, List.mem_append, Option.mem_toList, not_or] at this
          exact ⟨this.1, this.2.1, this.2.2.1, this.2.2.2⟩
        exact ((ho.keep q6 (fun k hk => (hn k hk).2.1)).keep q7 (fun k hk => (hn k hk).2.2.2)).keep q8' (fun k hk => by have := hn k hk; rintro (e | e); exact this.1 e; exact this.2.2.1 e)
      have FIN : Did w b mp F (.tuple #[]) s.wipe (giveAll mp m s.L) (.returned (.tuple #[])) w8 := by
        obtain ⟨y1, y2, y3, y4, y5, y6, y7⟩ := M8
        refine ⟨rfl, hmo, ⟨_, ⟨AS.wipe_ok H0.out, t8, .slice base cn cap1, cn, rb, ⟨?_, y2, y3, y4, fun p => ?_, y5, hB.cn1, fun p hp => rfl, fun x hx => by simp [AS.wipe] at hx, y6, y7⟩, rfl⟩, fun k hk => ?_⟩, hkeep⟩
        · simpa [AS.wipe, AS.used] using y1
        · obtain ⟨m1, m2, m3⟩ := mk8
          have hsz2 := hB.sz
          by_cases hp : p < t.size
          · rw [m3 p hp, if_pos (by omega), wipe_fr]
            simp
            omega
          · rw [TR.free_out t8 p (by omega), wipe_fr]
            simp
            omega
        · simp only [List.mem_cons, List.mem_append, Option.mem_toList] at hk
          rcases hk with e | e | e | e
          · exact .inl (by rw [hFe]; simp [e])
          · exact .inl (by rw [hFe]; simp [e])
          · rcases n8' k e with e | e
            · exact .inl (by rw [hFe]; simp [e])
            · right
              have := hq.size
              have := q6.size
              have := q7.size
              omega
          · exact .inl (by rw [hFe]; simp [e])
      have HFIN := Lib.hid FIN
      clear FIN mk mk8 M8 n8' q8' hkeep hmo ho hq q6 q7 M7 hlt0 hFe hB hm n8 s8 q8 z8
      go_wp2
      go_end0
      exact HFIN.out

end Go.Proofs.Ytklknkeanmjhnaa.Arena
