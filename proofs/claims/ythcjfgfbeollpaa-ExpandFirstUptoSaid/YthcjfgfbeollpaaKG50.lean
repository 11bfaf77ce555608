/- The code's Plain and IsPlain (layer 13). -/
import Derived.Test.YthcjfgfbeollpaaKG46
import Derived.Test.YthcjfgfbeollpaaKG45
import Derived.Test.YthcjfgfbeollpaaKG47
import Derived.Test.YthcjfgfbeollpaaKG34
import Derived.Test.YthcjfgfbeollpaaKG20
namespace Go.Proofs.Ythcjfgfbeollpaa.P13
open Go.RowKit Go.Proofs.Ythcjfgfbeollpaa.Base Go.Proofs.Ythcjfgfbeollpaa.Bytes Go.Proofs.Ythcjfgfbeollpaa.P07 Go.Proofs.Ythcjfgfbeollpaa.P08 Go.Proofs.Ythcjfgfbeollpaa.P09 Go.Proofs.Ythcjfgfbeollpaa.P10
open Go.Proofs.Ythcjfgfbeollpaa.Sets (ST)

/-- A node and an error are handed back. -/
def GivesE (w : World) (t : T) (er : Int) (e : Ending) (w' : World) : Prop := (∃ a c, e = .returned (.tuple #[nodeV t a c, .int .i64 er]) ∧ t.subs.length ≤ c ∧ Lie w' (fun k => w.heap.size ≤ k ∧ Zb w' k) a t.subs) ∧ Keep (fun _ => False) w w'
theorem GivesE.of {n0 : Nat} {w : World} {t : T} {a : Option Addr} {c : Nat} {w' : World} (h : GivesN n0 w t (.returned (nodeV t a c)) w') (hn : w.heap.size ≤ n0) (er : Int) : GivesE w t er (.returned (.tuple #[nodeV t a c, .int .i64 er])) w' := by
  obtain ⟨⟨a', c', h1, h2, h3⟩, h4⟩ := h.wider hn
  injection h1 with h1
  injection h1 with h1
  have e0 : (ncells t a c)[7]? = (ncells t a' c')[7]? := by rw [h1]
  have e0 : some (Value.slice a t.subs.length c) = some (Value.slice a' t.subs.length c') := e0
  injection e0 with e0
  injection e0 with e1 _ e2
  subst e1 e2
  exact ⟨⟨a, c, rfl, h2, h3⟩, h4⟩

set_option maxRecDepth 100000 in
set_option maxHeartbeats 4000000 in
theorem isp_false {t : T} {bl o : Nat} {a : Option Addr} {c : Nat} {w : World} (h : NodeP w bl o t a c) (hf : fldP t = false) :
    Calls Try.prog 57 #[.pointer (some ⟨bl, o, none⟩)] w fun e w' => e = .returned (.bool false) ∧ Keep (fun _ => False) w w' := by
  have HF := Lib.hid (fld_is h hf)
  clear h hf
  go_enter Try.func57, Try.ntmps57
  go_wp2_with (go_at_call 81; refine HF.out.mono ?_; rintro e w2 ⟨rfl, rfl⟩)
  go_ret
  exact ⟨rfl, Keep.refl _ _⟩
set_option maxRecDepth 100000 in
set_option maxHeartbeats 16000000 in
/-- Not right: ErrArg; too wide: ErrNodes. -/
theorem cplain_no (t : T) (hs : SOk t) {r : Bool} (hr : rightB t = r) {n : Int} (hn : wd t = n) (bud : Int) (er : Int) (he : (r = false ∧ er = 1) ∨ (r = true ∧ er = 11 ∧ min bud 400 < n)) (a : Option Addr) (c : Nat) (w : World) (hL : Lie w (fun _ => True) a t.subs) :
    Calls Try.prog 15 #[nodeV t a c, .int .i64 bud] w (GivesE w zT er) := by
  have b0 := (At.new w (ncells t a c) 27).alloc (.cells nzeros 27)
  have r0 : Rb w (w.heap.size + 1) ((w.alloc (.cells (ncells t a c) 27)).alloc (.cells nzeros 27)) := by
    refine ⟨?_, ((Keep.refl (fun _ => False) w).alloc _).alloc _, by omega⟩
    have := At.new (w.alloc (.cells (ncells t a c) 27)) nzeros 27
    rw [show (w.alloc (.cells (ncells t a c) 27)).heap.size = w.heap.size + 1 from by simp] at this
    exact this
  have hl0 := hL.keepF r0.keep
  have hcr := fun W (h : Lie W (fun _ => True) a t.subs) => cRight_any t hs a c W h
  rw [hr] at hcr
  have hwd : ∀ W, r = true → Lie W (fun _ => True) a t.subs → Calls Try.prog 54 #[nodeV t a c] W fun e w' => e = .returned (.int .i64 n) ∧ Keep (fun _ => False) W w' := fun W h1 h => wide_r ((rightB_iff hs).1 (hr.trans h1)) hn a c W h
  have H0 := Lib.hid (And.intro r0 (And.intro b0 (And.intro hl0 (And.intro hcr hwd))))
  clear r0 b0 hl0 hL hr hn hcr hwd hs
  go_enter Try.func15, Try.ntmps15
  go_upto_region 1 with fail
  generalize ((w.alloc (.cells (ncells t a c) 27)).alloc (.cells nzeros 27)) = W at *
  obtain ⟨⟨y0, y1, y2, y3, y4, y5, y6, y7⟩, -⟩ := cells8 H0.out.2.1
  rcases he with ⟨rfl, rfl⟩ | ⟨rfl, rfl, hlt⟩
  · go_upto_region 2 with (go_at_call 53; refine (H0.out.2.2.2.1 W H0.out.2.2.1).mono ?_; rintro e w1 ⟨rfl, q1⟩)
    have R2 := Lib.hid (H0.out.1.next q1)
    clear q1 y0 y1 y2 y3 y4 y5 y6 y7
    obtain ⟨⟨d0, d1, d2, d3, d4, d5, d6, d7⟩, f0, f1, f2, f3, f4, f5, f6, f7⟩ := cells8 R2.out.out
    have hlt := R2.out.out.lt
    go_wp2_with fail
    change bodyPost _ _ _ _ _ (putNd w1 (w.heap.size + 1) 0 zT none 0)
    have hP := R2.out.put zT none 0
    have hG := GivesE.of (rb_gives R2.out (n0 := w.heap.size) (t := zT) (a := none) (c := 0) (Nat.le_refl 0) (.nil _)) (Nat.le_refl _) 1
    generalize (putNd w1 (w.heap.size + 1) 0 zT none 0) = W9 at hP hG ⊢
    obtain ⟨⟨e0, e1, e2, e3, e4, e5, e6, e7⟩, -⟩ := cells8 hP.1
    exact bodyPost_ret (v := .tuple #[nodeV zT none 0, .int .i64 1]) (by simp [results, Try.results15, go_sem, e0, e1, e2, e3, e4, e5, e6, e7]) rfl hG
  · obtain ⟨m, hm⟩ : ∃ m, min bud 400 = m := ⟨_, rfl⟩
    rw [hm] at hlt
    go_upto_region 3 with (go_at_call 53; refine (H0.out.2.2.2.1 W H0.out.2.2.1).mono ?_; rintro e w1 ⟨rfl, q1⟩)
    clear y0 y1 y2 y3 y4 y5 y6 y7
    obtain ⟨⟨y0, y1, y2, y3, y4, y5, y6, y7⟩, -⟩ := cells8 (H0.out.2.1.keep q1 (fun h => h))
    have R1 := Lib.hid (And.intro (H0.out.1.next q1) (H0.out.2.2.1.keepF q1))
    clear q1
    go_upto_region 4 with (go_at_call 54; refine (H0.out.2.2.2.2 w1 (by first | rfl | trivial) R1.out.2).mono ?_; rintro e w2 ⟨rfl, q2⟩)
    have R2 := Lib.hid (R1.out.1.next q2)
    clear q2 y0 y1 y2 y3 y4 y5 y6 y7
    obtain ⟨⟨d0, d1, d2, d3, d4, d5, d6, d7⟩, f0, f1, f2, f3, f4, f5, f6, f7⟩ := cells8 R2.out.out
    have hlt := R2.out.out.lt
    go_wp2_with fail
    change bodyPost _ _ _ _ _ (putNd w2 (w.heap.size + 1) 0 zT none 0)
    have hP := R2.out.put zT none 0
    have hG := GivesE.of (rb_gives R2.out (n0 := w.heap.size) (t := zT) (a := none) (c := 0) (Nat.le_refl 0) (.nil _)) (Nat.le_refl _) 11
    generalize (putNd w2 (w.heap.size + 1) 0 zT none 0) = W9 at hP hG ⊢
    obtain ⟨⟨e0, e1, e2, e3, e4, e5, e6, e7⟩, -⟩ := cells8 hP.1
    exact bodyPost_ret (v := .tuple #[nodeV zT none 0, .int .i64 11]) (by simp [results, Try.results15, go_sem, e0, e1, e2, e3, e4, e5, e6, e7]) rfl hG

set_option maxRecDepth 100000 in
set_option maxHeartbeats 16000000 in
theorem cplain_yes (t : T) (hR : RT 12 t) (hcnt : cnt t ≤ 400000) {n : Int} (hn : wd t = n) (bud : Int) (hb : n ≤ min bud 400) {x : T} (hx : plT t = x) (a : Option Addr) (c : Nat) (w : World) (hL : Lie w (fun _ => True) a t.subs) (hc : t.subs.length ≤ c) :
    Calls Try.prog 15 #[nodeV t a c, .int .i64 bud] w (GivesE w x 0) := by
  have b0 := (At.new w (ncells t a c) 27).alloc (.cells nzeros 27)
  have r0 : Rb w (w.heap.size + 1) ((w.alloc (.cells (ncells t a c) 27)).alloc (.cells nzeros 27)) := by
    refine ⟨?_, ((Keep.refl (fun _ => False) w).alloc _).alloc _, by omega⟩
    have := At.new (w.alloc (.cells (ncells t a c) 27)) nzeros 27
    rw [show (w.alloc (.cells (ncells t a c) 27)).heap.size = w.heap.size + 1 from by simp] at this
    exact this
  have hs0 : ((w.alloc (.cells (ncells t a c) 27)).alloc (.cells nzeros 27)).heap.size = w.heap.size + 2 := by simp
  have hl0 := hL.keepF r0.keep
  have hs := RT_sok t 12 hR
  have hcr := fun W (h : Lie W (fun _ => True) a t.subs) => cRight_any t hs a c W h
  rw [(rightB_iff hs).2 hR] at hcr
  have hwd : ∀ W, Lie W (fun _ => True) a t.subs → Calls Try.prog 54 #[nodeV t a c] W fun e w' => e = .returned (.int .i64 n) ∧ Keep (fun _ => False) W w' := fun W h => wide_r hR hn a c W h
  have hwr : ∀ W, NodeP W w.heap.size 0 t a c → Lie W (fun _ => True) a t.subs → Calls Try.prog 55 #[.pointer (some ⟨w.heap.size, 0, none⟩)] W (GivesN W.heap.size W x) := fun W h1 h2 => by
    rw [← hx]
    exact wr_any t 12 hR hcnt w.heap.size 0 a c W h1 h2 hc
  have H0 := Lib.hid (And.intro r0 (And.intro b0 (And.intro hl0 (And.intro hcr (And.intro hwd hwr)))))
  have HS0 := Lib.hid hs0
  clear r0 b0 hl0 hL hn hcr hwd hs hwr hR hcnt hx hc
  go_enter Try.func15, Try.ntmps15
  go_upto_region 1 with fail
  generalize ((w.alloc (.cells (ncells t a c) 27)).alloc (.cells nzeros 27)) = W at *
  obtain ⟨⟨y0, y1, y2, y3, y4, y5, y6, y7⟩, -⟩ := cells8 H0.out.2.1
  go_upto_region 3 with (go_at_call 53; refine (H0.out.2.2.2.1 W H0.out.2.2.1).mono ?_; rintro e w1 ⟨rfl, q1⟩)
  clear y0 y1 y2 y3 y4 y5 y6 y7
  obtain ⟨⟨y0, y1, y2, y3, y4, y5, y6, y7⟩, -⟩ := cells8 (H0.out.2.1.keep q1 (fun h => h))
  have R1 := Lib.hid (And.intro (H0.out.1.next q1) (And.intro (H0.out.2.2.1.keepF q1) (And.intro (H0.out.2.1.keep q1 (fun h => h)) q1.size)))
  clear q1
  go_upto_region 5 with (go_at_call 54; refine (H0.out.2.2.2.2.1 w1 R1.out.2.1).mono ?_; rintro e w2 ⟨rfl, q2⟩)
  have R2 := Lib.hid (And.intro (R1.out.1.next q2) (H0.out.2.2.2.2.2 w2 (NodeP.of_at (R1.out.2.2.1.keep q2 (fun h => h))) (R1.out.2.1.keepF q2)))
  have hsz2 : w.heap.size + 2 ≤ w2.heap.size := by have h1 := R1.out.2.2.2; have h2 := q2.size; have h3 := HS0.out; omega
  clear q2 y0 y1 y2 y3 y4 y5 y6 y7 hs0
  go_wp2_with fail
  refine R2.out.2.mono ?_
  rintro e w3 ⟨⟨xa, xc, rfl, hxc, hxl⟩, q3⟩
  have R3 := Lib.hid (R2.out.1.next q3)
  have hG := GivesE.of (rb_gives R3.out (n0 := w.heap.size + 2) (t := x) hxc (hxl.mono fun k hk => ⟨⟨by have := hk.1; omega, hk.2⟩, by have := hk.1; omega⟩)) (by omega) 0
  have HG := Lib.hid hG
  clear hG hxc hxl q3
  obtain ⟨⟨d0, d1, d2, d3, d4, d5, d6, d7⟩, f0, f1, f2, f3, f4, f5, f6, f7⟩ := cells8 R3.out.out
  have hlt := R3.out.out.lt
  go_wp2_with fail
  change bodyPost _ _ _ _ _ (putNd w3 (w.heap.size + 1) 0 x xa xc)
  have hP := R3.out.put x xa xc
  have hG := HG.out
  generalize (putNd w3 (w.heap.size + 1) 0 x xa xc) = W9 at hP hG ⊢
  obtain ⟨⟨e0, e1, e2, e3, e4, e5, e6, e7⟩, -⟩ := cells8 hP.1
  exact bodyPost_ret (v := .tuple #[nodeV x xa xc, .int .i64 0]) (by simp [results, Try.results15, go_sem, e0, e1, e2, e3, e4, e5, e6, e7]) rfl hG

set_option maxRecDepth 100000 in
set_option maxHeartbeats 4000000 in
/-- IsPlain of a plain one whose lists lie in plain cells. -/
theorem cisp_true (t : T) (a : Option Addr) (c : Nat) (w : World) (hL : Lie w (Zb w) a t.subs) (hc : t.subs.length ≤ c) (hp : isP t = true) (hcnt : cnt t ≤ 100000) :
    Calls Try.prog 21 #[nodeV t a c] w fun e w' => e = .returned (.bool true) ∧ Keep (fun _ => False) w w' := by
  have a0 := At.new w (ncells t a c) 27
  have q := (Keep.refl (fun _ => False) w).alloc (.cells (ncells t a c) 27)
  have HC := Lib.hid (And.intro (isp_true t w.heap.size 0 a c _ (NodeP.of_at a0) (Zb.of a0) ((hL.keepF q).mono fun k hk => hk.keep q (fun h => h)) hc hp hcnt) q)
  clear a0 q hL hc hp hcnt
  go_enter Try.func21, Try.ntmps21
  go_upto_region 1 with fail
  generalize (w.alloc (.cells (ncells t a c) 27)) = W at *
  go_wp2_with (go_at_call 57; refine HC.out.1.mono ?_; rintro e w2 ⟨rfl, q2⟩; have Q2 := Lib.hid q2; clear q2)
  go_ret
  exact ⟨rfl, HC.out.2.trans Q2.out⟩
set_option maxRecDepth 100000 in
set_option maxHeartbeats 4000000 in
/-- IsPlain of one whose own fields aren't a plain one's. -/
theorem cisp_false (t : T) (a : Option Addr) (c : Nat) (w : World) (hf : fldP t = false) :
    Calls Try.prog 21 #[nodeV t a c] w fun e w' => e = .returned (.bool false) ∧ Keep (fun _ => False) w w' := by
  have a0 := At.new w (ncells t a c) 27
  have q := (Keep.refl (fun _ => False) w).alloc (.cells (ncells t a c) 27)
  have HC := Lib.hid (And.intro (isp_false (NodeP.of_at a0) hf) q)
  clear a0 q hf
  go_enter Try.func21, Try.ntmps21
  go_upto_region 1 with fail
  generalize (w.alloc (.cells (ncells t a c) 27)) = W at *
  go_wp2_with (go_at_call 57; refine HC.out.1.mono ?_; rintro e w2 ⟨rfl, q2⟩; have Q2 := Lib.hid q2; clear q2)
  go_ret
  exact ⟨rfl, HC.out.2.trans Q2.out⟩
end Go.Proofs.Ythcjfgfbeollpaa.P13
/- Layer 13: the law's own text; plain facts of awake. -/
namespace Go.Proofs.Ythcjfgfbeollpaa.P13
open Go.RowKit Go.Proofs.Ythcjfgfbeollpaa.Base Go.Proofs.Ythcjfgfbeollpaa.Bytes Go.Proofs.Ythcjfgfbeollpaa.P07 Go.Proofs.Ythcjfgfbeollpaa.P08 Go.Proofs.Ythcjfgfbeollpaa.P09 Go.Proofs.Ythcjfgfbeollpaa.P10
open Go.Proofs.Ythcjfgfbeollpaa.Sets (ST)

/-- Two texts: the first one written out is the second one. -/
def awP (F : Nat) (l : List UInt8) (G : Nat) (m : List UInt8) (n : Int) : Bool := match parse F l, parse G m with
  | .inr t, .inr u => sameB (plT t) u && (decide (wd t ≤ n) && (decide (cnt t ≤ 1000) && (isP u && decide (cnt u ≤ 1000))))
  | _, _ => false
theorem awP_is {F G : Nat} {l m : List UInt8} {n : Int} (h : awP F l G m n = true) : ∃ t u, parse F l = .inr t ∧ parse G m = .inr u ∧ plT t = u ∧ wd t ≤ n ∧ cnt t ≤ 1000 ∧ isP u = true ∧ cnt u ≤ 1000 := by
  unfold awP at h
  split at h
  · rename_i t u h1 h2
    simp only [Bool.and_eq_true, sameB_iff, decide_eq_true_eq] at h
    exact ⟨t, u, h1, h2, h⟩
  · cases h
theorem aw13a : awP 8 [97, 123, 49, 44, 50, 125] 7 [97, 40, 97, 124, 41] 100 = true := by kernel_rfl
theorem aw13b : awP 7 [97, 123, 50, 44, 125] 6 [97, 97, 97, 42] 100 = true := by kernel_rfl
def awW (F : Nat) (l : List UInt8) (n : Int) : Bool := match parse F l with
  | .inr t => decide (n < wd t) && decide (cnt t ≤ 1000)
  | _ => false
theorem awW_is {F : Nat} {l : List UInt8} {n : Int} (h : awW F l n = true) : ∃ t, parse F l = .inr t ∧ n < wd t ∧ cnt t ≤ 1000 := by
  unfold awW at h
  split at h
  · rename_i t h1
    simp only [Bool.and_eq_true, decide_eq_true_eq] at h
    exact ⟨t, h1, h⟩
  · cases h
theorem aw13c : awW 7 [97, 123, 50, 48, 125] 20 = true := by kernel_rfl
def awF (F : Nat) (l : List UInt8) : Bool := match parse F l with
  | .inr t => !fldP t
  | _ => false
theorem awF_is {F : Nat} {l : List UInt8} (h : awF F l = true) : ∃ t, parse F l = .inr t ∧ fldP t = false := by
  unfold awF at h
  split at h
  · rename_i t h1
    rw [Bool.not_eq_true'] at h
    exact ⟨t, h1, h⟩
  · cases h
theorem aw13d : awF 4 [97, 63] = true := by kernel_rfl
theorem aw13e : rightB zT = false := by kernel_rfl

set_option maxRecDepth 100000 in
set_option maxHeartbeats 4000000 in
theorem text13_any {F : Nat} {l : List UInt8} {t : T} (h : parse F l = .inr t) (hF : l.length + 2 ≤ F) (hl : l.length ≤ 100000000) (w : World) :
    Calls Try.prog 51 #[P07.str l] w (Gives w (fun _ => False) t) := by
  have r0 : Rb w w.heap.size (w.alloc (.cells nzeros 27)) := ⟨At.new w nzeros 27, (Keep.refl (fun _ => False) w).alloc _, Nat.le_refl _⟩
  have HP := Lib.hid (fun W => parse_right9 h hF hl W)
  have HR := Lib.hid r0
  clear r0 h hF hl
  go_enter Try.func51, Try.ntmps51
  go_upto_region 1 with fail
  generalize (w.alloc (.cells nzeros 27)) = W0 at *
  go_wp2_with fail
  refine (HP.out W0).mono ?_
  rintro e w1 ⟨a, c, rfl, hle, hlie, q1⟩
  have hsz := HR.out.out.lt
  have hsz1 := q1.size
  have R1 := Lib.hid (HR.out.next q1)
  have hlie2 : Lie w1 (fun k => (False ∨ w.heap.size ≤ k) ∧ k ≠ w.heap.size) a t.subs := hlie.mono fun k hk => ⟨.inr (by omega), by omega⟩
  have b1 := At.new w1 (ncells t a c) 27
  have q2 := (Keep.refl (fun _ => False) w1).alloc (.cells (ncells t a c) 27)
  have H2 := Lib.hid (And.intro (R1.out.next q2) (And.intro b1 (And.intro (hlie2.keepF q2) hle)))
  have hlt : w.heap.size < w1.heap.size := by omega
  clear hsz hsz1 hlie hlie2 b1 q1 q2 hle
  go_upto_region 2 with fail
  generalize (w1.alloc (.cells (ncells t a c) 27)) = W1 at *
  generalize w1.heap.size = n1 at *
  obtain ⟨⟨x0, x1, x2, x3, x4, x5, x6, x7⟩, -⟩ := cells8 H2.out.2.1
  obtain ⟨⟨d0, d1, d2, d3, d4, d5, d6, d7⟩, f0, f1, f2, f3, f4, f5, f6, f7⟩ := cells8 H2.out.1.out
  have hlt2 := H2.out.1.out.lt
  go_wp2_with fail
  change bodyPost _ _ _ _ _ (putNd W1 w.heap.size 0 t a c)
  have hP := H2.out.1.put t a c
  have hG := H2.out.1.gives (ok := fun _ => False) (t := t) H2.out.2.2.2 H2.out.2.2.1
  generalize (putNd W1 w.heap.size 0 t a c) = W9 at hP hG ⊢
  obtain ⟨⟨e0, e1, e2, e3, e4, e5, e6, e7⟩, -⟩ := cells8 hP.1
  exact bodyPost_ret (v := nodeV t a c) (by simp [results, Try.results51, go_sem, e0, e1, e2, e3, e4, e5, e6, e7]) rfl hG
end Go.Proofs.Ythcjfgfbeollpaa.P13
/- Layer 13: awake answers true. -/
namespace Go.Proofs.Ythcjfgfbeollpaa.P13
open Go.RowKit Go.Proofs.Ythcjfgfbeollpaa.Base Go.Proofs.Ythcjfgfbeollpaa.Bytes Go.Proofs.Ythcjfgfbeollpaa.P07 Go.Proofs.Ythcjfgfbeollpaa.P08 Go.Proofs.Ythcjfgfbeollpaa.P09 Go.Proofs.Ythcjfgfbeollpaa.P10
open Go.Proofs.Ythcjfgfbeollpaa.Sets (ST)

theorem same13 (t : T) (a : Option Addr) (c : Nat) (b : Option Addr) (d : Nat) (w : World) (ha : Lie w (fun _ => True) a t.subs) (hb : Lie w (fun _ => True) b t.subs) :
    Calls Try.prog 17 #[nodeV t a c, nodeV t b d] w fun e w' => e = .returned (.bool true) ∧ Keep (fun _ => False) w w' := by
  refine (same_any t t a c b d w ha hb).mono ?_
  rintro e w' ⟨v, rfl, hv, q⟩
  rw [hv.2 rfl]
  exact ⟨rfl, q⟩

set_option maxRecDepth 100000 in
set_option maxHeartbeats 16000000 in
theorem awake13 (w : World) : Calls Try.prog 13 #[] w fun e w' => e = .returned (.bool true) ∧ Keep (fun _ => False) w w' := by
  obtain ⟨t1, A, hp1, hpA, hs1, hw1, hc1, hA, hcA⟩ := awP_is aw13a
  obtain ⟨t2, B, hp2, hpB, hs2, hw2, hc2, -, -⟩ := awP_is aw13b
  obtain ⟨t3, hp3, hw3, hc3⟩ := awW_is aw13c
  obtain ⟨t5, hp5, hf5⟩ := awF_is aw13d
  have HQ := Lib.hid (And.intro (fun W => text13_any hp1 (by decide) (by decide) W) (And.intro (fun W => text13_any hp2 (by decide) (by decide) W) (fun W => text13_any hp3 (by decide) (by decide) W)))
  have HT := Lib.hid (And.intro (fun W => text13_any hpA (by decide) (by decide) W) (And.intro (fun W => text13_any hpB (by decide) (by decide) W) (fun W => text13_any hp5 (by decide) (by decide) W)))
  have m1 := fun a c W (hL : Lie W (fun _ => True) a t1.subs) hc => cplain_yes t1 (read_right hp1) (by omega) rfl 100 (by omega) hs1 a c W hL hc
  have m2 := fun a c W (hL : Lie W (fun _ => True) a t2.subs) hc => cplain_yes t2 (read_right hp2) (by omega) rfl 100 (by omega) hs2 a c W hL hc
  have m3 := fun a c W (hL : Lie W (fun _ => True) a t3.subs) => cplain_no t3 (RT_sok t3 12 (read_right hp3)) ((rightB_iff (RT_sok t3 12 (read_right hp3))).2 (read_right hp3)) rfl 20 11 (.inr ⟨rfl, rfl, by omega⟩) a c W hL
  have m4 := fun W => cplain_no zT (by rw [zT, SOk, SOkL]; exact ⟨ST.none_ok, trivial⟩) aw13e rfl 100 1 (.inl ⟨rfl, rfl⟩) none 0 W (.nil _)
  have HM := Lib.hid (And.intro m1 (And.intro m2 (And.intro m3 m4)))
  have HP := Lib.hid (And.intro hA hcA)
  have HF := Lib.hid hf5
  clear hp1 hp2 hp3 hp5 hpA hpB hs1 hs2 hw1 hw2 hw3 hc1 hc2 hc3 m1 m2 m3 m4 hA hcA hf5
  go_enter Try.func13, Try.ntmps13
  go_wp2_with fail
  refine (HQ.out.1 w).mono ?_
  rintro e w1 ⟨⟨v, rfl, a, c, rfl, hle, hlie⟩, q1⟩
  have G := Lib.hid (HM.out.1 a c w1 (hlie.mono fun _ _ => trivial) hle)
  have Q1 := Lib.hid q1
  clear hle hlie q1
  go_wp2_with fail
  refine G.out.mono ?_
  rintro e w2 ⟨⟨a1, c1, rfl, hle, hlie⟩, q2⟩
  clear G
  have qa := (Keep.refl (fun _ => False) w2).alloc (.cells (ncells A a1 c1) 27)
  have I1 := Lib.hid (And.intro (Nd.new hle hlie) (And.intro ((Q1.out.trans q2).alloc (.cells (ncells A a1 c1) 27)) ((zkeep hlie qa).mono (ok' := fun k => Zb (w2.alloc (.cells (ncells A a1 c1) 27)) k) fun k hk => hk.2)))
  clear hle hlie q2 Q1 qa
  go_upto_region 2 with fail
  generalize (w2.alloc (.cells (ncells A a1 c1) 27)) = W1 at *
  generalize w2.heap.size = n1 at *
  go_wp2_with fail
  refine (HQ.out.2.1 W1).mono ?_
  rintro e w3 ⟨⟨v, rfl, b, d, rfl, hle, hlie⟩, q1⟩
  have G := Lib.hid (HM.out.2.1 b d w3 (hlie.mono fun _ _ => trivial) hle)
  have Q1 := Lib.hid q1
  clear hle hlie q1
  go_wp2_with fail
  refine G.out.mono ?_
  rintro e w4 ⟨⟨a2, c2, rfl, hle, hlie⟩, q2⟩
  clear G
  have qq := (Q1.out.trans q2).alloc (.cells (ncells B a2 c2) 27)
  have I2 := Lib.hid (And.intro (I1.out.1.keep qq) (And.intro (Nd.new hle hlie) (And.intro (I1.out.2.1.trans qq) qq)))
  clear hle hlie q2 Q1 qq
  go_upto_region 3 with fail
  generalize (w4.alloc (.cells (ncells B a2 c2) 27)) = W2 at *
  generalize w4.heap.size = n2 at *
  go_wp2_with fail
  refine (HQ.out.2.2 W2).mono ?_
  rintro e w5 ⟨⟨v, rfl, b', d', rfl, hle, hlie⟩, q1⟩
  have G := Lib.hid (HM.out.2.2.1 b' d' w5 (hlie.mono fun _ _ => trivial))
  have Q1 := Lib.hid q1
  clear hle hlie q1
  go_wp2_with fail
  refine G.out.mono ?_
  rintro e w6 ⟨⟨a3, c3, rfl, hle, hlie⟩, q2⟩
  clear G
  have qq := (Q1.out.trans q2).alloc (.cells (ncells zT a3 c3) 27)
  have I3 := Lib.hid (And.intro (I2.out.1.keep qq) (And.intro (I2.out.2.1.keep qq) (And.intro (I2.out.2.2.1.trans qq) (I2.out.2.2.2.trans qq))))
  clear hle hlie q2 Q1 qq
  go_upto_region 4 with fail
  generalize (w6.alloc (.cells (ncells zT a3 c3) 27)) = W3 at *
  generalize w6.heap.size = n3 at *
  go_wp2_with fail
  refine (HM.out.2.2.2 W3).mono ?_
  rintro e w7 ⟨⟨a4, c4, rfl, hle, hlie⟩, q2⟩
  have qq := q2.alloc (.cells (ncells zT a4 c4) 27)
  have I4 := Lib.hid (And.intro (I3.out.1.keep qq) (And.intro (I3.out.2.1.keep qq) (And.intro (I3.out.2.2.1.trans qq) (I3.out.2.2.2.trans qq))))
  clear hle hlie q2 qq
  go_upto_region 5 with fail
  generalize (w7.alloc (.cells (ncells zT a4 c4) 27)) = W4 at *
  generalize w7.heap.size = n4 at *
  have HL := Lib.hid (And.intro I4.out.1.lie I4.out.2.1.lie)
  have HI := Lib.hid (fun (W : World) (q : Keep (fun _ => False) W4 W) => cisp_true A a1 c1 W ((I1.out.2.2.keepF (I4.out.2.2.2.trans q)).mono fun k hk => hk.keep (I4.out.2.2.2.trans q) (fun h => h)) I1.out.1.le HP.out.1 (Nat.le_trans HP.out.2 (by decide)))
  have hs : ∀ W', Keep (fun _ => False) W4 W' → (fun w' => Keep (fun _ => False) W4 w' ∧ w'.cell? ⟨n1, 0, none⟩ = some (.int .i64 A.kind) ∧ w'.cell? ⟨n1, 1, none⟩ = some (.int .u64 A.set.x0) ∧ w'.cell? ⟨n1, 2, none⟩ = some (.int .u64 A.set.x1) ∧ w'.cell? ⟨n1, 3, none⟩ = some (.int .u64 A.set.x2) ∧ w'.cell? ⟨n1, 4, none⟩ = some (.int .u64 A.set.x3) ∧ w'.cell? ⟨n1, 5, none⟩ = some (.int .i64 A.mn) ∧ w'.cell? ⟨n1, 6, none⟩ = some (.int .i64 A.mx) ∧ w'.cell? ⟨n1, 7, none⟩ = some (.slice a1 A.subs.length c1) ∧ w'.cell? ⟨n2, 0, none⟩ = some (.int .i64 B.kind) ∧ w'.cell? ⟨n2, 1, none⟩ = some (.int .u64 B.set.x0) ∧ w'.cell? ⟨n2, 2, none⟩ = some (.int .u64 B.set.x1) ∧ w'.cell? ⟨n2, 3, none⟩ = some (.int .u64 B.set.x2) ∧ w'.cell? ⟨n2, 4, none⟩ = some (.int .u64 B.set.x3) ∧ w'.cell? ⟨n2, 5, none⟩ = some (.int .i64 B.mn) ∧ w'.cell? ⟨n2, 6, none⟩ = some (.int .i64 B.mx) ∧ w'.cell? ⟨n2, 7, none⟩ = some (.slice a2 B.subs.length c2)) W' := fun W' q => by
    obtain ⟨x0, x1, x2, x3, x4, x5, x6, x7⟩ := (cells8 (I4.out.1.cell.keep q (fun h => h))).1
    obtain ⟨y0, y1, y2, y3, y4, y5, y6, y7⟩ := (cells8 (I4.out.2.1.cell.keep q (fun h => h))).1
    exact ⟨q, x0, x1, x2, x3, x4, x5, x6, x7, y0, y1, y2, y3, y4, y5, y6, y7⟩
  have HS := Lib.hid hs
  clear hs
  have HK := Lib.hid I4.out.2.2.1
  refine wp_region_noPanic ?_
  refine wp_region_held_drew (S := (fun w' => Keep (fun _ => False) W4 w' ∧ w'.cell? ⟨n1, 0, none⟩ = some (.int .i64 A.kind) ∧ w'.cell? ⟨n1, 1, none⟩ = some (.int .u64 A.set.x0) ∧ w'.cell? ⟨n1, 2, none⟩ = some (.int .u64 A.set.x1) ∧ w'.cell? ⟨n1, 3, none⟩ = some (.int .u64 A.set.x2) ∧ w'.cell? ⟨n1, 4, none⟩ = some (.int .u64 A.set.x3) ∧ w'.cell? ⟨n1, 5, none⟩ = some (.int .i64 A.mn) ∧ w'.cell? ⟨n1, 6, none⟩ = some (.int .i64 A.mx) ∧ w'.cell? ⟨n1, 7, none⟩ = some (.slice a1 A.subs.length c1) ∧ w'.cell? ⟨n2, 0, none⟩ = some (.int .i64 B.kind) ∧ w'.cell? ⟨n2, 1, none⟩ = some (.int .u64 B.set.x0) ∧ w'.cell? ⟨n2, 2, none⟩ = some (.int .u64 B.set.x1) ∧ w'.cell? ⟨n2, 3, none⟩ = some (.int .u64 B.set.x2) ∧ w'.cell? ⟨n2, 4, none⟩ = some (.int .u64 B.set.x3) ∧ w'.cell? ⟨n2, 5, none⟩ = some (.int .i64 B.mn) ∧ w'.cell? ⟨n2, 6, none⟩ = some (.int .i64 B.mx) ∧ w'.cell? ⟨n2, 7, none⟩ = some (.slice a2 B.subs.length c2))) (by kernel_rfl) ?_ (fun hHeld => ?_)
  · exact HS.out _ ((Keep.refl _ _).drew)
  refine wpAnyH_take (i := 0) (oi := { dst := some 29, op := Go.Op.load 27 (Go.Operand.tmp 1), type := 27, pos := "law.go:28", after := #[], guard := none }) (v := ?_) rfl (by kernel_rfl) (by kernel_rfl) (by kernel_rfl) (fun _ _ _ h => h) (Or.inl ⟨by rfl, ?_⟩) (by assumption) ?_
  rotate_left 1
  · (intro w hSw; (try dsimp only at hSw); go_simp; first | done | with_reducible rfl)
  try simp only [Act.put, List.setIfInBounds_toArray, List.set_cons_zero, List.set_cons_succ]
  refine wpAnyH_ready (rs := [1]) (by kernel_rfl) (by simp) ?_
  refine AllReadyH.cons (o := { dst := some 30, op := Go.Op.call { callee := Go.Callee.value (Go.Operand.func 51), args := #[Go.Operand.const (Go.Value.string { data := #[97, 40, 97, 124, 41] })], argTypes := #[9] }, type := 27, pos := "law.go:28", after := #[], guard := none }) rfl (fun K hK => ?_) AllReadyH.nil
  go_simp
  (go_at_call 51; refine (HT.out.1 _).mono ?_; rintro e w2 ⟨⟨v, rfl, xa, xc, rfl, hle1, hL1⟩, q⟩)
  refine hK.out _ _ ?_ (fun hHeld' => ?_)
  · exact HS.out _ (Keep.trans (And.left hHeld) q)
  clear hK K hHeld
  have hHeld := hHeld'
  clear hHeld'
  try simp only [Act.put, List.setIfInBounds_toArray, List.set_cons_zero, List.set_cons_succ]
  refine wpAnyH_ready (rs := [2]) (by kernel_rfl) (by simp) ?_
  refine AllReadyH.cons (o := { dst := some 31, op := Go.Op.call { callee := Go.Callee.value (Go.Operand.func 17), args := #[Go.Operand.tmp 29, Go.Operand.tmp 30], argTypes := #[27, 27] }, type := 4, pos := "law.go:28", after := #[{ on := 0, ground := Go.Ground.data }, { on := 1, ground := Go.Ground.data }, { on := 1, ground := Go.Ground.chain }], guard := none }) rfl (fun K hK => ?_) AllReadyH.nil
  go_simp
  (go_at_call 17; refine (same13 A a1 c1 _ _ _ (HL.out.1.keepF (And.left hHeld)) (hL1.mono fun _ _ => trivial)).mono ?_; rintro e w2 ⟨rfl, q⟩)
  refine hK.out _ _ ?_ (fun hHeld' => ?_)
  · exact HS.out _ (Keep.trans (And.left hHeld) q)
  clear hK K hHeld
  have hHeld := hHeld'
  clear hHeld'
  try simp only [Act.put, List.setIfInBounds_toArray, List.set_cons_zero, List.set_cons_succ]
  refine wpAnyH_take (i := 3) (oi := { dst := some 32, op := Go.Op.move (Go.Operand.tmp 31), type := 4, pos := "law.go:28", after := #[{ on := 2, ground := Go.Ground.data }, { on := 2, ground := Go.Ground.chain }], guard := none }) (v := ?_) rfl (by kernel_rfl) (by kernel_rfl) (by kernel_rfl) (fun _ _ _ h => h) (Or.inl ⟨by rfl, ?_⟩) (by assumption) ?_
  rotate_left 1
  · (intro w hSw; (try dsimp only at hSw); go_simp; first | done | with_reducible rfl)
  try simp only [Act.put, List.setIfInBounds_toArray, List.set_cons_zero, List.set_cons_succ]
  refine wpAnyH_take (i := 4) (oi := { dst := some 33, op := Go.Op.move (Go.Operand.tmp 2), type := 30, pos := "law.go:28", after := #[{ on := 3, ground := Go.Ground.guard }], guard := some (3, true) }) (v := ?_) rfl (by kernel_rfl) (by kernel_rfl) (by kernel_rfl) (fun _ _ _ h => h) (Or.inl ⟨by rfl, ?_⟩) (by assumption) ?_
  rotate_left 1
  · (intro w hSw; (try dsimp only at hSw); go_simp; first | done | with_reducible rfl)
  try simp only [Act.put, List.setIfInBounds_toArray, List.set_cons_zero, List.set_cons_succ]
  refine wpAnyH_take (i := 5) (oi := { dst := some 34, op := Go.Op.binOp Go.BinOp.eql 30 (Go.Operand.tmp 33) (Go.Operand.const (Go.Value.int Go.IntKind.i64 0)) 30, type := 4, pos := "law.go:28", after := #[{ on := 4, ground := Go.Ground.data }, { on := 3, ground := Go.Ground.guard }], guard := some (3, true) }) (v := ?_) rfl (by kernel_rfl) (by kernel_rfl) (by kernel_rfl) (fun _ _ _ h => h) (Or.inl ⟨by rfl, ?_⟩) (by assumption) ?_
  rotate_left 1
  · (intro w hSw; (try dsimp only at hSw); go_simp; first | done | with_reducible rfl)
  try simp only [Act.put, List.setIfInBounds_toArray, List.set_cons_zero, List.set_cons_succ]
  refine wpAnyH_take (i := 6) (oi := { dst := some 35, op := Go.Op.pick (Go.Operand.tmp 32) (Go.Operand.tmp 34) (Go.Operand.const (Go.Value.bool false)), type := 4, pos := "law.go:28", after := #[{ on := 3, ground := Go.Ground.data }, { on := 5, ground := Go.Ground.data }], guard := none }) (v := ?_) rfl (by kernel_rfl) (by kernel_rfl) (by kernel_rfl) (fun _ _ _ h => h) (Or.inl ⟨by rfl, ?_⟩) (by assumption) ?_
  rotate_left 1
  · (intro w hSw; (try dsimp only at hSw); go_simp; first | done | with_reducible rfl)
  try simp only [Act.put, List.setIfInBounds_toArray, List.set_cons_zero, List.set_cons_succ]
  refine wpAnyH_take (i := 7) (oi := { dst := some 36, op := Go.Op.move (Go.Operand.tmp 35), type := 4, pos := "law.go:28", after := #[{ on := 6, ground := Go.Ground.data }, { on := 3, ground := Go.Ground.chain }], guard := none }) (v := ?_) rfl (by kernel_rfl) (by kernel_rfl) (by kernel_rfl) (fun _ _ _ h => h) (Or.inl ⟨by rfl, ?_⟩) (by assumption) ?_
  rotate_left 1
  · (intro w hSw; (try dsimp only at hSw); go_simp; first | done | with_reducible rfl)
  try simp only [Act.put, List.setIfInBounds_toArray, List.set_cons_zero, List.set_cons_succ]
  refine wpAnyH_take (i := 8) (oi := { dst := some 37, op := Go.Op.load 27 (Go.Operand.tmp 3), type := 27, pos := "law.go:28", after := #[{ on := 7, ground := Go.Ground.guard }], guard := some (7, true) }) (v := ?_) rfl (by kernel_rfl) (by kernel_rfl) (by kernel_rfl) (fun _ _ _ h => h) (Or.inl ⟨by rfl, ?_⟩) (by assumption) ?_
  rotate_left 1
  · (intro w hSw; (try dsimp only at hSw); go_simp; first | done | with_reducible rfl)
  try simp only [Act.put, List.setIfInBounds_toArray, List.set_cons_zero, List.set_cons_succ]
  refine wpAnyH_ready (rs := [9]) (by kernel_rfl) (by simp) ?_
  refine AllReadyH.cons (o := { dst := some 38, op := Go.Op.call { callee := Go.Callee.value (Go.Operand.func 51), args := #[Go.Operand.const (Go.Value.string { data := #[97, 97, 97, 42] })], argTypes := #[9] }, type := 27, pos := "law.go:28", after := #[{ on := 7, ground := Go.Ground.chain }, { on := 7, ground := Go.Ground.guard }], guard := some (7, true) }) rfl (fun K hK => ?_) AllReadyH.nil
  go_simp
  (go_at_call 51; refine (HT.out.2.1 _).mono ?_; rintro e w2 ⟨⟨v, rfl, xa, xc, rfl, hle1, hL1⟩, q⟩)
  refine hK.out _ _ ?_ (fun hHeld' => ?_)
  · exact HS.out _ (Keep.trans (And.left hHeld) q)
  clear hK K hHeld
  have hHeld := hHeld'
  clear hHeld'
  try simp only [Act.put, List.setIfInBounds_toArray, List.set_cons_zero, List.set_cons_succ]
  refine wpAnyH_ready (rs := [10]) (by kernel_rfl) (by simp) ?_
  refine AllReadyH.cons (o := { dst := some 39, op := Go.Op.call { callee := Go.Callee.value (Go.Operand.func 17), args := #[Go.Operand.tmp 37, Go.Operand.tmp 38], argTypes := #[27, 27] }, type := 4, pos := "law.go:28", after := #[{ on := 8, ground := Go.Ground.data }, { on := 9, ground := Go.Ground.data }, { on := 9, ground := Go.Ground.chain }, { on := 7, ground := Go.Ground.guard }], guard := some (7, true) }) rfl (fun K hK => ?_) AllReadyH.nil
  go_simp
  (go_at_call 17; refine (same13 B a2 c2 _ _ _ (HL.out.2.keepF (And.left hHeld)) (hL1.mono fun _ _ => trivial)).mono ?_; rintro e w2 ⟨rfl, q⟩)
  refine hK.out _ _ ?_ (fun hHeld' => ?_)
  · exact HS.out _ (Keep.trans (And.left hHeld) q)
  clear hK K hHeld
  have hHeld := hHeld'
  clear hHeld'
  try simp only [Act.put, List.setIfInBounds_toArray, List.set_cons_zero, List.set_cons_succ]
  refine wpAnyH_take (i := 11) (oi := { dst := some 40, op := Go.Op.pick (Go.Operand.tmp 36) (Go.Operand.tmp 39) (Go.Operand.const (Go.Value.bool false)), type := 4, pos := "law.go:28", after := #[{ on := 7, ground := Go.Ground.data }, { on := 10, ground := Go.Ground.data }], guard := none }) (v := ?_) rfl (by kernel_rfl) (by kernel_rfl) (by kernel_rfl) (fun _ _ _ h => h) (Or.inl ⟨by rfl, ?_⟩) (by assumption) ?_
  rotate_left 1
  · (intro w hSw; (try dsimp only at hSw); go_simp; first | done | with_reducible rfl)
  try simp only [Act.put, List.setIfInBounds_toArray, List.set_cons_zero, List.set_cons_succ]
  refine wpAnyH_take (i := 12) (oi := { dst := some 41, op := Go.Op.move (Go.Operand.tmp 40), type := 4, pos := "law.go:28", after := #[{ on := 11, ground := Go.Ground.data }, { on := 10, ground := Go.Ground.chain }], guard := none }) (v := ?_) rfl (by kernel_rfl) (by kernel_rfl) (by kernel_rfl) (fun _ _ _ h => h) (Or.inl ⟨by rfl, ?_⟩) (by assumption) ?_
  rotate_left 1
  · (intro w hSw; (try dsimp only at hSw); go_simp; first | done | with_reducible rfl)
  try simp only [Act.put, List.setIfInBounds_toArray, List.set_cons_zero, List.set_cons_succ]
  refine wpAnyH_take (i := 13) (oi := { dst := some 42, op := Go.Op.move (Go.Operand.tmp 6), type := 30, pos := "law.go:28", after := #[{ on := 12, ground := Go.Ground.guard }], guard := some (12, true) }) (v := ?_) rfl (by kernel_rfl) (by kernel_rfl) (by kernel_rfl) (fun _ _ _ h => h) (Or.inl ⟨by rfl, ?_⟩) (by assumption) ?_
  rotate_left 1
  · (intro w hSw; (try dsimp only at hSw); go_simp; first | done | with_reducible rfl)
  try simp only [Act.put, List.setIfInBounds_toArray, List.set_cons_zero, List.set_cons_succ]
  refine wpAnyH_take (i := 14) (oi := { dst := some 43, op := Go.Op.binOp Go.BinOp.eql 30 (Go.Operand.tmp 42) (Go.Operand.const (Go.Value.int Go.IntKind.i64 11)) 30, type := 4, pos := "law.go:28", after := #[{ on := 13, ground := Go.Ground.data }, { on := 12, ground := Go.Ground.guard }], guard := some (12, true) }) (v := ?_) rfl (by kernel_rfl) (by kernel_rfl) (by kernel_rfl) (fun _ _ _ h => h) (Or.inl ⟨by rfl, ?_⟩) (by assumption) ?_
  rotate_left 1
  · (intro w hSw; (try dsimp only at hSw); go_simp; first | done | with_reducible rfl)
  try simp only [Act.put, List.setIfInBounds_toArray, List.set_cons_zero, List.set_cons_succ]
  refine wpAnyH_take (i := 15) (oi := { dst := some 44, op := Go.Op.pick (Go.Operand.tmp 41) (Go.Operand.tmp 43) (Go.Operand.const (Go.Value.bool false)), type := 4, pos := "law.go:28", after := #[{ on := 12, ground := Go.Ground.data }, { on := 14, ground := Go.Ground.data }], guard := none }) (v := ?_) rfl (by kernel_rfl) (by kernel_rfl) (by kernel_rfl) (fun _ _ _ h => h) (Or.inl ⟨by rfl, ?_⟩) (by assumption) ?_
  rotate_left 1
  · (intro w hSw; (try dsimp only at hSw); go_simp; first | done | with_reducible rfl)
  try simp only [Act.put, List.setIfInBounds_toArray, List.set_cons_zero, List.set_cons_succ]
  refine wpAnyH_take (i := 16) (oi := { dst := some 45, op := Go.Op.move (Go.Operand.tmp 44), type := 4, pos := "law.go:28", after := #[{ on := 15, ground := Go.Ground.data }, { on := 12, ground := Go.Ground.chain }], guard := none }) (v := ?_) rfl (by kernel_rfl) (by kernel_rfl) (by kernel_rfl) (fun _ _ _ h => h) (Or.inl ⟨by rfl, ?_⟩) (by assumption) ?_
  rotate_left 1
  · (intro w hSw; (try dsimp only at hSw); go_simp; first | done | with_reducible rfl)
  try simp only [Act.put, List.setIfInBounds_toArray, List.set_cons_zero, List.set_cons_succ]
  refine wpAnyH_take (i := 17) (oi := { dst := some 46, op := Go.Op.move (Go.Operand.tmp 8), type := 30, pos := "law.go:28", after := #[{ on := 16, ground := Go.Ground.guard }], guard := some (16, true) }) (v := ?_) rfl (by kernel_rfl) (by kernel_rfl) (by kernel_rfl) (fun _ _ _ h => h) (Or.inl ⟨by rfl, ?_⟩) (by assumption) ?_
  rotate_left 1
  · (intro w hSw; (try dsimp only at hSw); go_simp; first | done | with_reducible rfl)
  try simp only [Act.put, List.setIfInBounds_toArray, List.set_cons_zero, List.set_cons_succ]
  refine wpAnyH_take (i := 18) (oi := { dst := some 47, op := Go.Op.binOp Go.BinOp.eql 30 (Go.Operand.tmp 46) (Go.Operand.const (Go.Value.int Go.IntKind.i64 1)) 30, type := 4, pos := "law.go:28", after := #[{ on := 17, ground := Go.Ground.data }, { on := 16, ground := Go.Ground.guard }], guard := some (16, true) }) (v := ?_) rfl (by kernel_rfl) (by kernel_rfl) (by kernel_rfl) (fun _ _ _ h => h) (Or.inl ⟨by rfl, ?_⟩) (by assumption) ?_
  rotate_left 1
  · (intro w hSw; (try dsimp only at hSw); go_simp; first | done | with_reducible rfl)
  try simp only [Act.put, List.setIfInBounds_toArray, List.set_cons_zero, List.set_cons_succ]
  refine wpAnyH_take (i := 19) (oi := { dst := some 48, op := Go.Op.pick (Go.Operand.tmp 45) (Go.Operand.tmp 47) (Go.Operand.const (Go.Value.bool false)), type := 4, pos := "law.go:28", after := #[{ on := 16, ground := Go.Ground.data }, { on := 18, ground := Go.Ground.data }], guard := none }) (v := ?_) rfl (by kernel_rfl) (by kernel_rfl) (by kernel_rfl) (fun _ _ _ h => h) (Or.inl ⟨by rfl, ?_⟩) (by assumption) ?_
  rotate_left 1
  · (intro w hSw; (try dsimp only at hSw); go_simp; first | done | with_reducible rfl)
  try simp only [Act.put, List.setIfInBounds_toArray, List.set_cons_zero, List.set_cons_succ]
  refine wpAnyH_take (i := 20) (oi := { dst := some 49, op := Go.Op.move (Go.Operand.tmp 48), type := 4, pos := "law.go:28", after := #[{ on := 19, ground := Go.Ground.data }, { on := 16, ground := Go.Ground.chain }], guard := none }) (v := ?_) rfl (by kernel_rfl) (by kernel_rfl) (by kernel_rfl) (fun _ _ _ h => h) (Or.inl ⟨by rfl, ?_⟩) (by assumption) ?_
  rotate_left 1
  · (intro w hSw; (try dsimp only at hSw); go_simp; first | done | with_reducible rfl)
  try simp only [Act.put, List.setIfInBounds_toArray, List.set_cons_zero, List.set_cons_succ]
  refine wpAnyH_take (i := 21) (oi := { dst := some 50, op := Go.Op.load 27 (Go.Operand.tmp 1), type := 27, pos := "law.go:28", after := #[{ on := 20, ground := Go.Ground.guard }], guard := some (20, true) }) (v := ?_) rfl (by kernel_rfl) (by kernel_rfl) (by kernel_rfl) (fun _ _ _ h => h) (Or.inl ⟨by rfl, ?_⟩) (by assumption) ?_
  rotate_left 1
  · (intro w hSw; (try dsimp only at hSw); go_simp; first | done | with_reducible rfl)
  try simp only [Act.put, List.setIfInBounds_toArray, List.set_cons_zero, List.set_cons_succ]
  refine wpAnyH_ready (rs := [22]) (by kernel_rfl) (by simp) ?_
  refine AllReadyH.cons (o := { dst := some 51, op := Go.Op.call { callee := Go.Callee.value (Go.Operand.func 21), args := #[Go.Operand.tmp 50], argTypes := #[27] }, type := 4, pos := "law.go:28", after := #[{ on := 21, ground := Go.Ground.data }, { on := 20, ground := Go.Ground.chain }, { on := 20, ground := Go.Ground.guard }], guard := some (20, true) }) rfl (fun K hK => ?_) AllReadyH.nil
  go_simp
  (go_at_call 21; refine (HI.out _ (And.left hHeld)).mono ?_; rintro e w2 ⟨rfl, q⟩)
  refine hK.out _ _ ?_ (fun hHeld' => ?_)
  · exact HS.out _ (Keep.trans (And.left hHeld) q)
  clear hK K hHeld
  have hHeld := hHeld'
  clear hHeld'
  try simp only [Act.put, List.setIfInBounds_toArray, List.set_cons_zero, List.set_cons_succ]
  refine wpAnyH_take (i := 23) (oi := { dst := some 52, op := Go.Op.pick (Go.Operand.tmp 49) (Go.Operand.tmp 51) (Go.Operand.const (Go.Value.bool false)), type := 4, pos := "law.go:28", after := #[{ on := 20, ground := Go.Ground.data }, { on := 22, ground := Go.Ground.data }], guard := none }) (v := ?_) rfl (by kernel_rfl) (by kernel_rfl) (by kernel_rfl) (fun _ _ _ h => h) (Or.inl ⟨by rfl, ?_⟩) (by assumption) ?_
  rotate_left 1
  · (intro w hSw; (try dsimp only at hSw); go_simp; first | done | with_reducible rfl)
  try simp only [Act.put, List.setIfInBounds_toArray, List.set_cons_zero, List.set_cons_succ]
  refine wpAnyH_take (i := 24) (oi := { dst := some 53, op := Go.Op.move (Go.Operand.tmp 52), type := 4, pos := "law.go:28", after := #[{ on := 23, ground := Go.Ground.data }, { on := 22, ground := Go.Ground.chain }], guard := none }) (v := ?_) rfl (by kernel_rfl) (by kernel_rfl) (by kernel_rfl) (fun _ _ _ h => h) (Or.inl ⟨by rfl, ?_⟩) (by assumption) ?_
  rotate_left 1
  · (intro w hSw; (try dsimp only at hSw); go_simp; first | done | with_reducible rfl)
  try simp only [Act.put, List.setIfInBounds_toArray, List.set_cons_zero, List.set_cons_succ]
  refine wpAnyH_ready (rs := [25]) (by kernel_rfl) (by simp) ?_
  refine AllReadyH.cons (o := { dst := some 54, op := Go.Op.call { callee := Go.Callee.value (Go.Operand.func 51), args := #[Go.Operand.const (Go.Value.string { data := #[97, 63] })], argTypes := #[9] }, type := 27, pos := "law.go:28", after := #[{ on := 24, ground := Go.Ground.chain }, { on := 24, ground := Go.Ground.guard }], guard := some (24, true) }) rfl (fun K hK => ?_) AllReadyH.nil
  go_simp
  (go_at_call 51; refine (HT.out.2.2 _).mono ?_; rintro e w2 ⟨⟨v, rfl, xa, xc, rfl, hle1, hL1⟩, q⟩)
  refine hK.out _ _ ?_ (fun hHeld' => ?_)
  · exact HS.out _ (Keep.trans (And.left hHeld) q)
  clear hK K hHeld
  have hHeld := hHeld'
  clear hHeld'
  try simp only [Act.put, List.setIfInBounds_toArray, List.set_cons_zero, List.set_cons_succ]
  refine wpAnyH_ready (rs := [26]) (by kernel_rfl) (by simp) ?_
  refine AllReadyH.cons (o := { dst := some 55, op := Go.Op.call { callee := Go.Callee.value (Go.Operand.func 21), args := #[Go.Operand.tmp 54], argTypes := #[27] }, type := 4, pos := "law.go:28", after := #[{ on := 25, ground := Go.Ground.data }, { on := 25, ground := Go.Ground.chain }, { on := 24, ground := Go.Ground.guard }], guard := some (24, true) }) rfl (fun K hK => ?_) AllReadyH.nil
  go_simp
  (go_at_call 21; refine (cisp_false _ _ _ _ HF.out).mono ?_; rintro e w2 ⟨rfl, q⟩)
  refine hK.out _ _ ?_ (fun hHeld' => ?_)
  · exact HS.out _ (Keep.trans (And.left hHeld) q)
  clear hK K hHeld
  have hHeld := hHeld'
  clear hHeld'
  try simp only [Act.put, List.setIfInBounds_toArray, List.set_cons_zero, List.set_cons_succ]
  refine wpAnyH_take (i := 27) (oi := { dst := some 56, op := Go.Op.unOp Go.UnOp.not 4 (Go.Operand.tmp 55), type := 4, pos := "law.go:28", after := #[{ on := 26, ground := Go.Ground.data }, { on := 24, ground := Go.Ground.guard }], guard := some (24, true) }) (v := ?_) rfl (by kernel_rfl) (by kernel_rfl) (by kernel_rfl) (fun _ _ _ h => h) (Or.inl ⟨by rfl, ?_⟩) (by assumption) ?_
  rotate_left 1
  · (intro w hSw; (try dsimp only at hSw); go_simp; first | done | with_reducible rfl)
  try simp only [Act.put, List.setIfInBounds_toArray, List.set_cons_zero, List.set_cons_succ]
  refine wpAnyH_take (i := 28) (oi := { dst := some 57, op := Go.Op.pick (Go.Operand.tmp 53) (Go.Operand.tmp 56) (Go.Operand.const (Go.Value.bool false)), type := 4, pos := "law.go:28", after := #[{ on := 24, ground := Go.Ground.data }, { on := 27, ground := Go.Ground.data }], guard := none }) (v := ?_) rfl (by kernel_rfl) (by kernel_rfl) (by kernel_rfl) (fun _ _ _ h => h) (Or.inl ⟨by rfl, ?_⟩) (by assumption) ?_
  rotate_left 1
  · (intro w hSw; (try dsimp only at hSw); go_simp; first | done | with_reducible rfl)
  try simp only [Act.put, List.setIfInBounds_toArray, List.set_cons_zero, List.set_cons_succ]
  refine wpAnyH_take (i := 29) (oi := { dst := some 0, op := Go.Op.assign (Go.Operand.tmp 57), type := 4, pos := "law.go:28", after := #[{ on := 28, ground := Go.Ground.data }, { on := 26, ground := Go.Ground.chain }, { on := 0, ground := Go.Ground.phase }, { on := 1, ground := Go.Ground.phase }, { on := 2, ground := Go.Ground.phase }, { on := 3, ground := Go.Ground.phase }, { on := 4, ground := Go.Ground.phase }, { on := 5, ground := Go.Ground.phase }, { on := 6, ground := Go.Ground.phase }, { on := 7, ground := Go.Ground.phase }, { on := 8, ground := Go.Ground.phase }, { on := 9, ground := Go.Ground.phase }, { on := 10, ground := Go.Ground.phase }, { on := 11, ground := Go.Ground.phase }, { on := 12, ground := Go.Ground.phase }, { on := 13, ground := Go.Ground.phase }, { on := 14, ground := Go.Ground.phase }, { on := 15, ground := Go.Ground.phase }, { on := 16, ground := Go.Ground.phase }, { on := 17, ground := Go.Ground.phase }, { on := 18, ground := Go.Ground.phase }, { on := 19, ground := Go.Ground.phase }, { on := 20, ground := Go.Ground.phase }, { on := 21, ground := Go.Ground.phase }, { on := 22, ground := Go.Ground.phase }, { on := 23, ground := Go.Ground.phase }, { on := 24, ground := Go.Ground.phase }, { on := 25, ground := Go.Ground.phase }, { on := 26, ground := Go.Ground.phase }, { on := 27, ground := Go.Ground.phase }, { on := 28, ground := Go.Ground.phase }], guard := none }) (v := ?_) rfl (by kernel_rfl) (by kernel_rfl) (by kernel_rfl) (fun _ _ _ h => h) (Or.inl ⟨by rfl, ?_⟩) (by assumption) ?_
  rotate_left 1
  · (intro w hSw; (try dsimp only at hSw); go_simp; first | done | with_reducible rfl)
  try simp only [Act.put, List.setIfInBounds_toArray, List.set_cons_zero]
  refine wpAnyH_done (by kernel_rfl) ?_ _
  refine NoPanic.normal ?_
  have HZ := Lib.hid (HK.out.trans (And.left hHeld))
  clear hHeld
  go_wp2_with fail
  go_ret
  exact ⟨rfl, HZ.out⟩
end Go.Proofs.Ythcjfgfbeollpaa.P13
