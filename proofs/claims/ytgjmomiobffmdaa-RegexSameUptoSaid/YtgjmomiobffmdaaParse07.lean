/- The document's Parse (layer 7). -/
import Derived.Test.YtgjmomiobffmdaaAlt07
namespace Go.Proofs.Ytgjmomiobffmdaa.P07
open Go.RowKit Go.Proofs.Ytgjmomiobffmdaa.Base Go.Proofs.Ytgjmomiobffmdaa.IL Go.Proofs.Ytgjmomiobffmdaa.Bytes
open Go.Proofs.Ytgjmomiobffmdaa.Sets (ST)

/-- What Parse hands back. -/
def Parsed (w : World) (r : Nat ⊕ T) (e : Ending) (w' : World) : Prop := match r with
  | .inl p => e = .returned (.tuple #[.agg nzeros, .int .i64 p])
  | .inr t => ∃ v, e = .returned (.tuple #[v, .int .i64 (-1)]) ∧ NodeV w' (fun k => w.heap.size ≤ k) v t

structure Pa (w : World) (b : Nat) (l : List UInt8) (n5 : Nat) (t : T) (a : Option Addr) (c : Nat) (s : PS) (W : World) : Prop where
  pr : Pr W b l s
  out : At W w.heap.size 28 nzeros
  own : At W n5 28 (ncells t a c)
  keep : Keep (fun _ => False) w W
  lie : Lie W (fun k => b < k ∧ k < n5) a t.subs
  low : b = w.heap.size + 1 ∧ b < n5 ∧ t.subs.length ≤ c

set_option maxRecDepth 100000 in
set_option maxHeartbeats 8000000 in
theorem parse_any (F : Nat) (l : List UInt8) (hF : l.length + 2 ≤ F) (hl : l.length ≤ 3000) (w : World) : Calls Try.prog 14 #[str l] w fun e w' => Parsed w (parse F l) e w' ∧ Keep (fun _ => False) w w' := by
  obtain ⟨⟨t, RS⟩, hR⟩ : ∃ R, altD F 13 l s0 = R := ⟨_, rfl⟩
  have hq : parse F l = ends l (t, RS) := by unfold parse; rw [hR]
  rw [hq]
  have hpos : RS.pos ≤ l.length + 14 := by
    have h1 := (altD_near F 13).here (by decide) (l := l) (s := s0) ⟨fun _ => Nat.zero_le _, Nat.zero_le _⟩
    rw [hR] at h1
    exact h1.2
  have HAlt := Lib.hid (show ∀ b W, b < W.heap.size → Pr W b l s0 → Calls Try.prog 20 #[.pointer (some ⟨b, 0, none⟩)] W fun e w' => (∃ v, e = .returned v ∧ NodeV w' (fun k => W.heap.size ≤ k) v t) ∧ Pr w' b l RS ∧ Keep (fun i => i = b) W w' from fun b W h1 h2 => by
    have h3 := altD_any F b l hF hl 13 0 (by decide) (by decide) s0 W ⟨fun _ => Nat.zero_le _, Nat.zero_le _⟩ rfl h1 h2
    rw [hR] at h3
    exact h3)
  have hs := size_str l
  obtain ⟨ans, hans⟩ : ∃ r, ends l (t, RS) = r := ⟨_, rfl⟩
  rw [hans]
  have HA := Lib.hid hans
  clear hR hq hans
  unfold str
  have hstr : str l = .string ⟨l.toArray⟩ := rfl
  obtain ⟨B, hB⟩ : ∃ B : ByteArray, (⟨l.toArray⟩ : ByteArray) = B := ⟨_, rfl⟩
  rw [hB] at hs hstr ⊢
  clear hB
  have a1 := At.new (w.alloc (.cells nzeros 28)) #[.string B, .int .i64 0, .int .i64 (-1), .int .i64 0] 54
  rw [show (w.alloc (.cells nzeros 28)).heap.size = w.heap.size + 1 from by simp] at a1
  have W0 := Lib.hid (And.intro (show Pr _ _ l s0 from by unfold Pr pcells; rw [hstr]; exact a1) (And.intro ((At.new w nzeros 28).alloc (.cells #[.string B, .int .i64 0, .int .i64 (-1), .int .i64 0] 54)) (((Keep.refl (fun _ => False) w).alloc (.cells nzeros 28)).alloc (.cells #[.string B, .int .i64 0, .int .i64 (-1), .int .i64 0] 54))))
  have HSTR := Lib.hid hstr
  clear a1 hstr
  go_enter Try.func14, Try.ntmps14
  go_upto_region 2 with fail
  generalize ((w.alloc (.cells nzeros 28)).alloc (.cells #[.string B, .int .i64 0, .int .i64 (-1), .int .i64 0] 54)) = V2 at *
  have hb2 := W0.out.1.lt
  go_wp2_with fail
  refine (HAlt.out (w.heap.size + 1) V2 hb2 W0.out.1).mono ?_
  rintro e w4 ⟨⟨v, rfl, a', c', rfl, hle, hLie⟩, r4, q4⟩
  have P5 := Lib.hid (show Pa w (w.heap.size + 1) l w4.heap.size t a' c' RS (w4.alloc (.cells (ncells t a' c') 28)) from by
    have qa := (Keep.refl (fun _ => False) w4).alloc (.cells (ncells t a' c') 28)
    have hz := q4.size
    exact ⟨r4.keep qa (fun h => h), (W0.out.2.1.keep q4 (by omega)).alloc _, At.new w4 _ _, (W0.out.2.2.next q4 (fun i hi hl => by omega)).alloc _, ((hLie.under).keepF qa).mono (fun k hk => by have := hk.1; have := hk.2; omega), rfl, by omega, hle⟩)
  clear hb2 r4 q4 hLie hle
  go_upto_region 3 with fail
  generalize (w4.alloc (.cells (ncells t a' c') 28)) = W5 at *
  generalize w4.heap.size = n5 at *
  have c1 : W5.cell? ⟨w.heap.size + 1, 1, none⟩ = some (.int .i64 RS.pos) := At.cell P5.out.pr (o := 1) rfl
  have c2 : W5.cell? ⟨w.heap.size + 1, 2, none⟩ = some (.int .i64 (badI RS.bad)) := At.cell P5.out.pr (o := 2) rfl
  cases hbad : RS.bad with
  | some x =>
    rw [hbad] at c2
    have c2' : W5.cell? ⟨w.heap.size + 1, 2, none⟩ = some (.int .i64 (x : Int)) := c2
    have hx0 : ¬ (x : Int) < 0 := by omega
    have hx1 : (0 : Int) ≤ (x : Int) := by omega
    have HX := Lib.hid (show ans = .inl x from by rw [← HA.out]; unfold ends; dsimp only; rw [hbad])
    clear c2 hbad
    go_upto_region 6 with fail
    have k0 := P5.out.out
    obtain ⟨⟨y0, y1, y2, y3, y4, y5, y6, y7⟩, f0, f1, f2, f3, f4, f5, f6, f7⟩ := cells8 k0
    have hlt0 := k0.lt
    clear k0
    go_region_with fail
    all_goals
      have a := set8 P5.out.out (.int .i64 0) (.int .u64 0) (.int .u64 0) (.int .u64 0) (.int .u64 0) (.int .i64 0) (.int .i64 0) (.slice none 0 0)
      have q := keep8 P5.out.keep (b := w.heap.size) (fun h => absurd h (Nat.lt_irrefl _)) (.int .i64 0) (.int .u64 0) (.int .u64 0) (.int .u64 0) (.int .u64 0) (.int .i64 0) (.int .i64 0) (.slice none 0 0)
      unfold put8 at a q
      generalize ((((((((W5.setCell ⟨w.heap.size, 0, none⟩ (.int .i64 0)).setCell ⟨w.heap.size, 1, none⟩ (.int .u64 0)).setCell ⟨w.heap.size, 2, none⟩ (.int .u64 0)).setCell ⟨w.heap.size, 3, none⟩ (.int .u64 0)).setCell ⟨w.heap.size, 4, none⟩ (.int .u64 0)).setCell ⟨w.heap.size, 5, none⟩ (.int .i64 0)).setCell ⟨w.heap.size, 6, none⟩ (.int .i64 0)).setCell ⟨w.heap.size, 7, none⟩ (.slice none 0 0)) = W8 at a q ⊢
      obtain ⟨⟨e0, e1, e2, e3, e4, e5, e6, e7⟩, -⟩ := cells8 a
      go_wp2_with fail
      exact bodyPost_ret (v := .tuple #[.agg #[(.int .i64 0), (.int .u64 0), (.int .u64 0), (.int .u64 0), (.int .u64 0), (.int .i64 0), (.int .i64 0), (.slice none 0 0)], .int .i64 x]) (by simp [results, Try.results14, go_sem, e0, e1, e2, e3, e4, e5, e6, e7]) rfl ⟨by rw [HX.out]; rfl, q.drew⟩
  | none =>
    rw [hbad] at c2
    have c2' : W5.cell? ⟨w.heap.size + 1, 2, none⟩ = some (.int .i64 (-1)) := c2
    have hx0 : (-1 : Int) < 0 := by omega
    have hx1 : ¬ (0 : Int) ≤ -1 := by omega
    clear c2
    by_cases hlt : RS.pos < l.length
    · have HX := Lib.hid (show ans = .inl RS.pos from by rw [← HA.out]; unfold ends; dsimp only; rw [hbad]; dsimp only; rw [if_pos hlt])
      have HBad := Lib.hid hbad
      clear hbad
      have hlt1 : RS.pos < B.size := by omega
      have hlti : (RS.pos : Int) < (B.size : Int) := by omega
      go_wp2_with fail
      refine (fail_any (w.heap.size + 1) l RS RS.pos W5 P5.out.pr).mono ?_
      rintro e w6 ⟨rfl, r6, q6⟩
      have P6 := Lib.hid (And.intro (P5.out.out.keep q6 (by omega)) (P5.out.keep.next q6 (fun i hi hl => by omega)))
      have c6 : w6.cell? ⟨w.heap.size + 1, 2, none⟩ = some (.int .i64 (RS.pos : Int)) := by
        have h1 := At.cell r6 (o := 2) (v := .int .i64 (badI (RS.fail RS.pos).bad)) rfl
        rw [show (RS.fail RS.pos).bad = some RS.pos from by unfold PS.fail; rw [if_pos HBad.out]] at h1
        exact h1
      have hx2 : (0 : Int) ≤ (RS.pos : Int) := by omega
      clear r6 q6 c1 c2'
      go_upto_region 6 with fail
      have k0 := P6.out.1
      obtain ⟨⟨y0, y1, y2, y3, y4, y5, y6, y7⟩, f0, f1, f2, f3, f4, f5, f6, f7⟩ := cells8 k0
      have hlt0 := k0.lt
      clear k0
      go_region_with fail
      all_goals
        have a := set8 P6.out.1 (.int .i64 0) (.int .u64 0) (.int .u64 0) (.int .u64 0) (.int .u64 0) (.int .i64 0) (.int .i64 0) (.slice none 0 0)
        have q := keep8 P6.out.2 (b := w.heap.size) (fun h => absurd h (Nat.lt_irrefl _)) (.int .i64 0) (.int .u64 0) (.int .u64 0) (.int .u64 0) (.int .u64 0) (.int .i64 0) (.int .i64 0) (.slice none 0 0)
        unfold put8 at a q
        generalize ((((((((w6.setCell ⟨w.heap.size, 0, none⟩ (.int .i64 0)).setCell ⟨w.heap.size, 1, none⟩ (.int .u64 0)).setCell ⟨w.heap.size, 2, none⟩ (.int .u64 0)).setCell ⟨w.heap.size, 3, none⟩ (.int .u64 0)).setCell ⟨w.heap.size, 4, none⟩ (.int .u64 0)).setCell ⟨w.heap.size, 5, none⟩ (.int .i64 0)).setCell ⟨w.heap.size, 6, none⟩ (.int .i64 0)).setCell ⟨w.heap.size, 7, none⟩ (.slice none 0 0)) = W8 at a q ⊢
        obtain ⟨⟨e0, e1, e2, e3, e4, e5, e6, e7⟩, -⟩ := cells8 a
        go_wp2_with fail
        exact bodyPost_ret (v := .tuple #[.agg #[(.int .i64 0), (.int .u64 0), (.int .u64 0), (.int .u64 0), (.int .u64 0), (.int .i64 0), (.int .i64 0), (.slice none 0 0)], .int .i64 RS.pos]) (by simp [results, Try.results14, go_sem, e0, e1, e2, e3, e4, e5, e6, e7]) rfl ⟨by rw [HX.out]; rfl, q.drew⟩
    · have HX := Lib.hid (show ans = .inr t from by rw [← HA.out]; unfold ends; dsimp only; rw [hbad]; dsimp only; rw [if_neg hlt])
      clear hbad
      have hlt1 : ¬ RS.pos < B.size := by omega
      have hlti : ¬ (RS.pos : Int) < (B.size : Int) := by omega
      obtain ⟨⟨y0, y1, y2, y3, y4, y5, y6, y7⟩, -⟩ := cells8 P5.out.own
      have hlt5 := P5.out.own.lt
      obtain ⟨⟨z0, z1, z2, z3, z4, z5, z6, z7⟩, f0, f1, f2, f3, f4, f5, f6, f7⟩ := cells8 P5.out.out
      have hlt0 := P5.out.out.lt
      go_wp2_with fail
      change bodyPost _ _ _ _ _ (put8 W5 w.heap.size (.int .i64 t.kind) (.int .u64 t.set.x0) (.int .u64 t.set.x1) (.int .u64 t.set.x2) (.int .u64 t.set.x3) (.int .i64 t.mn) (.int .i64 t.mx) (.slice a' t.subs.length c'))
      have a := set8 P5.out.out (.int .i64 t.kind) (.int .u64 t.set.x0) (.int .u64 t.set.x1) (.int .u64 t.set.x2) (.int .u64 t.set.x3) (.int .i64 t.mn) (.int .i64 t.mx) (.slice a' t.subs.length c')
      have q := keep8 P5.out.keep (b := w.heap.size) (fun h => absurd h (Nat.lt_irrefl _)) (.int .i64 t.kind) (.int .u64 t.set.x0) (.int .u64 t.set.x1) (.int .u64 t.set.x2) (.int .u64 t.set.x3) (.int .i64 t.mn) (.int .i64 t.mx) (.slice a' t.subs.length c')
      have hLast := (P5.out.lie.keep (keep8 (Keep.refl (fun i => i = w.heap.size) W5) (b := w.heap.size) (fun _ => rfl) (.int .i64 t.kind) (.int .u64 t.set.x0) (.int .u64 t.set.x1) (.int .u64 t.set.x2) (.int .u64 t.set.x3) (.int .i64 t.mn) (.int .i64 t.mx) (.slice a' t.subs.length c')) (fun k hk e => by omega)).mono (ok' := fun k => w.heap.size ≤ k) (fun k hk => by omega)
      generalize (put8 W5 w.heap.size (.int .i64 t.kind) (.int .u64 t.set.x0) (.int .u64 t.set.x1) (.int .u64 t.set.x2) (.int .u64 t.set.x3) (.int .i64 t.mn) (.int .i64 t.mx) (.slice a' t.subs.length c')) = W9 at a q hLast ⊢
      obtain ⟨⟨e0, e1, e2, e3, e4, e5, e6, e7⟩, -⟩ := cells8 a
      exact bodyPost_ret (v := .tuple #[.agg #[(.int .i64 t.kind), (.int .u64 t.set.x0), (.int .u64 t.set.x1), (.int .u64 t.set.x2), (.int .u64 t.set.x3), (.int .i64 t.mn), (.int .i64 t.mx), (.slice a' t.subs.length c')], .int .i64 (-1)]) (by simp [results, Try.results14, go_sem, e0, e1, e2, e3, e4, e5, e6, e7]) rfl ⟨by rw [HX.out]; exact ⟨_, rfl, a', c', rfl, P5.out.low.2.2, hLast⟩, q⟩
end Go.Proofs.Ytgjmomiobffmdaa.P07
