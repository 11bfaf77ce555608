/- The document's rule (layer 6): one line's name and text, or the place that is wrong. -/
import Derived.Test.YtcdemlfkoknekaaRef06
import Derived.Deep.QuietTactic
import Derived.BigQuiet
namespace Go.Proofs.Ytcdemlfkoknekaa.Ref06
open Go.RowKit Go.Proofs.Ytcdemlfkoknekaa.Base

/-- The bytes from lo up to hi. -/
def sub (l : List UInt8) (lo hi : Nat) : List UInt8 := (l.take hi).drop lo
theorem sub_cut (l : List UInt8) (lo hi : Nat) : ByteArray.extract ⟨l.toArray⟩ lo hi = ⟨(sub l lo hi).toArray⟩ := by
  apply ByteArray.ext
  simp [sub, List.drop_take]

theorem slice_run (l : List UInt8) (lo hi : Nat) (h1 : lo ≤ hi) (h2 : hi ≤ l.length) (w : World) : (Instr.slice 9 (str l) (some (.int .i64 lo)) (some (.int .i64 hi)) none).run Try.prog w = .ok (str (sub l lo hi)) w := by
  have hs := size_str l
  have e := sub_cut l lo hi
  have a3 : (0 : Int) ≤ hi := by omega
  have a4 : (0 : Int) ≤ lo := by omega
  simp [Instr.slice, Instr.sliceBounds, Instr.sliceBound, run_underlying (P := Try.prog) Try.underlying9, asIntOf, hs, e, h1, h2, a3, a4, go_sem]

/-- From i on over letters, f of them at most. -/
def scan (l : List UInt8) (t : Nat) : Nat → Nat → Nat
  | 0, i => i
  | f + 1, i => if i < t ∧ letB (byteAt l i) = true then scan l t f (i + 1) else i
theorem scan_go {l : List UInt8} {t f i : Nat} (h : i < t) (hb : letB (byteAt l i) = true) : scan l t (f + 1) i = scan l t f (i + 1) := by
  rw [scan, if_pos ⟨h, hb⟩]
theorem scan_out {l : List UInt8} {t f i : Nat} (h : ¬ i < t) : scan l t f i = i := by
  cases f with
  | zero => rfl
  | succ f => rw [scan, if_neg (fun e => h e.1)]
theorem scan_no {l : List UInt8} {t f i : Nat} (hb : letB (byteAt l i) = false) : scan l t f i = i := by
  cases f with
  | zero => rfl
  | succ f => rw [scan, if_neg (fun e => by rw [hb] at e; cases e.2)]
theorem scan_ge (l : List UInt8) (t : Nat) : ∀ f i, i ≤ scan l t f i
  | 0, i => Nat.le_refl _
  | f + 1, i => by
    unfold scan
    split
    · have := scan_ge l t f (i + 1)
      omega
    · exact Nat.le_refl _
theorem scan_le (l : List UInt8) (t : Nat) : ∀ f i, i ≤ t → scan l t f i ≤ t
  | 0, i, h => h
  | f + 1, i, h => by
    unfold scan
    split
    · rename_i k
      exact scan_le l t f (i + 1) k.1
    · exact h

/-- Where the line from a up to t is wrong, or its name ends. -/
def nmEnd (l : List UInt8) (a t : Nat) : Nat := scan l t 12 a
def bad' (l : List UInt8) (i a t : Nat) : Bool := decide (i = t) || decide (byteAt l i ≠ 58) || decide (i = a)
def bad (l : List UInt8) (a t : Nat) : Bool := bad' l (nmEnd l a t) a t
@[reducible] def lineV (n x : List UInt8) (at' : Int) : Value := .agg #[str n, str x, .int .i64 at']

set_option maxRecDepth 100000 in
set_option maxHeartbeats 1000000 in
theorem rule_any (l : List UInt8) (hl : l.length ≤ 1000000000) (a t : Nat) (hat : a ≤ t) (htl : t ≤ l.length) (w : World) :
    Calls Try.prog 21 #[str l, .int .i64 a, .int .i64 t] w fun e w' => e = .returned (if bad l a t then .tuple #[lineV [] [] 0, .int .i64 (nmEnd l a t)] else .tuple #[lineV (sub l a (nmEnd l a t)) (sub l (nmEnd l a t + 1) t) (nmEnd l a t + 1 : Nat), .int .i64 (-1)]) ∧ Keep (fun _ => False) w w' := by
  have hge := scan_ge l t 12 a
  have hle := scan_le l t 12 a hat
  obtain ⟨I, hI⟩ : ∃ I, nmEnd l a t = I := ⟨_, rfl⟩
  have hI' : scan l t 12 a = I := hI
  have hbad : bad l a t = bad' l I a t := by unfold bad; rw [hI]
  rw [hI, hbad]
  obtain ⟨ans, hans⟩ : ∃ v : Value, (if bad' l I a t then .tuple #[lineV [] [] 0, .int .i64 I] else .tuple #[lineV (sub l a I) (sub l (I + 1) t) (I + 1 : Nat), .int .i64 (-1)]) = v := ⟨_, rfl⟩
  rw [hans]
  have HA := Lib.hid hans
  clear hans
  rw [hI'] at hge hle
  have HI := Lib.hid hI'
  clear hI hI' hbad
  have hs := size_str l
  have hix := index_run l
  have hsl := slice_run l
  obtain ⟨B, hB⟩ : ∃ B : ByteArray, (⟨l.toArray⟩ : ByteArray) = B := ⟨_, rfl⟩
  unfold str at hix
  rw [show str l = .string B from by unfold str; rw [hB]]
  have hsl' : ∀ lo hi, lo ≤ hi → hi ≤ l.length → ∀ w, (Instr.slice 9 (.string B) (some (.int .i64 lo)) (some (.int .i64 hi)) none).run Try.prog w = .ok (str (sub l lo hi)) w := fun lo hi h1 h2 w => by rw [← hB]; exact hsl lo hi h1 h2 w
  rw [hB] at hs hix
  have HIX := Lib.hid (And.intro hix hsl')
  clear hix hsl hsl' hB
  go_enter Try.func21, Try.ntmps21
  go_wp2_with fail
  have a6 := At.new w #[.string ⟨#[]⟩, .string ⟨#[]⟩, .int .i64 0] 32
  have q6 := (Keep.refl (fun _ => False) w).alloc (.cells #[.string ⟨#[]⟩, .string ⟨#[]⟩, .int .i64 0] 32)
  have A1 := Lib.hid (And.intro a6 q6)
  clear a6 q6
  generalize (w.alloc (.cells #[.string ⟨#[]⟩, .string ⟨#[]⟩, .int .i64 0] 32)) = W at *
  go_loopg [8] 12 (fun gg i wr => ∃ k : Nat, i = .int .i64 k ∧ a ≤ k ∧ k + gg = a + 12 ∧ k ≤ t ∧ scan l t gg k = I ∧ W = wr)
  case atStart => exact ⟨a, rfl, Nat.le_refl _, rfl, hat, HI.out, rfl⟩
  case round =>
    obtain ⟨k, rfl, hak, hk, hkt, hE, rfl⟩ := hrel
    have HE := Lib.hid hE
    clear hE
    by_cases hlt : k < t
    · have hlt' : (k : Int) < t := by omega
      have hi := HIX.out.1 k (by omega)
      have hb := byteAt_lt l k
      obtain ⟨x, hx⟩ : ∃ x, letB (byteAt l k) = x := ⟨_, rfl⟩
      have HX := Lib.hid hx
      clear hx
      obtain ⟨c, hc⟩ : ∃ c, byteAt l k = c := ⟨_, rfl⟩
      rw [hc] at hi hb
      have HC0 := Lib.hid hc
      clear hc
      go_wp2_with fail
      refine (letter_is (v := x) hb (by rw [← HC0.out]; exact HX.out) W).mono ?_
      rintro e w' ⟨rfl, rfl⟩
      cases x
      · have hkI : k = I := by rw [← HE.out, scan_no HX.out]
        subst hkI
        try clear hi
        have HI2 := Lib.hid (show bad' l k a t = (decide (k = t) || decide (byteAt l k ≠ 58) || decide (k = a)) from rfl)
        have c0 := A1.out.1.cell (o := 0) rfl
        have c1 := A1.out.1.cell (o := 1) rfl
        have c2 := A1.out.1.cell (o := 2) rfl
        have f0 := A1.out.1.frozen 0
        have f1 := A1.out.1.frozen 1
        have f2 := A1.out.1.frozen 2
        by_cases k1 : k = t
        · have k1' : ((k : Int) == t) = true := by simp; omega
          have K1 := Lib.hid k1
          clear k1 hk hkt
          go_wp2_with fail
          have a := ((A1.out.1.set 0 (.string ⟨#[]⟩)).set 1 (.string ⟨#[]⟩)).set 2 (.int .i64 0)
          have q := ((A1.out.2.setCell (p := ⟨w.heap.size, 0, none⟩) (fun h => absurd h (by simp)) (.string ⟨#[]⟩)).setCell (p := ⟨w.heap.size, 1, none⟩) (fun h => absurd h (by simp)) (.string ⟨#[]⟩)).setCell (p := ⟨w.heap.size, 2, none⟩) (fun h => absurd h (by simp)) (.int .i64 0)
          generalize World.setCell _ _ _ = W2 at *
          have e0 := a.cell (o := 0) rfl
          have e1 := a.cell (o := 1) rfl
          have e2 := a.cell (o := 2) rfl
          exact bodyPost_ret (v := .tuple #[lineV [] [] 0, .int .i64 k]) (by simp [results, Try.results21, go_sem, e0, e1, e2]) rfl ⟨by rw [← HA.out, if_pos (by rw [HI2.out]; simp [K1.out])], q⟩
        · have k1' : ((k : Int) == t) = false := by simp; omega
          have hi2 := HIX.out.1 k (by omega)
          by_cases k2 : byteAt l k = 58
          · rw [k2] at hi2
            by_cases k3 : k = a
            · have k3' : ((k : Int) == a) = true := by simp; omega
              have K3 := Lib.hid k3
              clear k3 hk hak k2
              go_wp2_with fail
              have a := ((A1.out.1.set 0 (.string ⟨#[]⟩)).set 1 (.string ⟨#[]⟩)).set 2 (.int .i64 0)
              have q := ((A1.out.2.setCell (p := ⟨w.heap.size, 0, none⟩) (fun h => absurd h (by simp)) (.string ⟨#[]⟩)).setCell (p := ⟨w.heap.size, 1, none⟩) (fun h => absurd h (by simp)) (.string ⟨#[]⟩)).setCell (p := ⟨w.heap.size, 2, none⟩) (fun h => absurd h (by simp)) (.int .i64 0)
              generalize World.setCell _ _ _ = W2 at *
              have e0 := a.cell (o := 0) rfl
              have e1 := a.cell (o := 1) rfl
              have e2 := a.cell (o := 2) rfl
              exact bodyPost_ret (v := .tuple #[lineV [] [] 0, .int .i64 k]) (by simp [results, Try.results21, go_sem, e0, e1, e2]) rfl ⟨by rw [← HA.out, if_pos (by rw [HI2.out]; simp [K3.out])], q⟩
            · have k3' : ((k : Int) == a) = false := by simp; omega
              have s1 := HIX.out.2 a k (by omega) (by omega)
              have s2 := HIX.out.2 (k + 1) t (by omega) (by omega)
              rw [show ((k + 1 : Nat) : Int) = (k : Int) + 1 from rfl] at s2
              go_wp2_with fail
              go_region
              all_goals
                go_wp2_with fail
                have aa := ((A1.out.1.set 0 (str (sub l a k))).set 1 (str (sub l (k + 1) t))).set 2 (.int .i64 ((k : Int) + 1))
                have q := ((A1.out.2.setCell (p := ⟨w.heap.size, 0, none⟩) (fun h => absurd h (by simp)) (str (sub l a k))).setCell (p := ⟨w.heap.size, 1, none⟩) (fun h => absurd h (by simp)) (str (sub l (k + 1) t))).setCell (p := ⟨w.heap.size, 2, none⟩) (fun h => absurd h (by simp)) (.int .i64 ((k : Int) + 1))
                generalize World.setCell _ _ _ = W2 at *
                have e0 := aa.cell (o := 0) rfl
                have e1 := aa.cell (o := 1) rfl
                have e2 := aa.cell (o := 2) rfl
                exact bodyPost_ret (v := .tuple #[lineV (sub l a k) (sub l (k + 1) t) ((k : Int) + 1), .int .i64 (-1)]) (by simp [results, Try.results21, go_sem, e0, e1, e2]) rfl ⟨by rw [← HA.out, if_neg (by rw [HI2.out]; simp [k1, k2, k3])]; rfl, q.drew⟩
          · obtain ⟨c3, hc3⟩ : ∃ c3, byteAt l k = c3 := ⟨_, rfl⟩
            rw [hc3] at hi2
            have k2' : ((c3 : Int) != 58) = true := by simp; omega
            go_wp2_with fail
            have a := ((A1.out.1.set 0 (.string ⟨#[]⟩)).set 1 (.string ⟨#[]⟩)).set 2 (.int .i64 0)
            have q := ((A1.out.2.setCell (p := ⟨w.heap.size, 0, none⟩) (fun h => absurd h (by simp)) (.string ⟨#[]⟩)).setCell (p := ⟨w.heap.size, 1, none⟩) (fun h => absurd h (by simp)) (.string ⟨#[]⟩)).setCell (p := ⟨w.heap.size, 2, none⟩) (fun h => absurd h (by simp)) (.int .i64 0)
            generalize World.setCell _ _ _ = W2 at *
            have e0 := a.cell (o := 0) rfl
            have e1 := a.cell (o := 1) rfl
            have e2 := a.cell (o := 2) rfl
            exact bodyPost_ret (v := .tuple #[lineV [] [] 0, .int .i64 k]) (by simp [results, Try.results21, go_sem, e0, e1, e2]) rfl ⟨by rw [← HA.out, if_pos (by rw [HI2.out]; simp [k2])], q⟩
      · by_cases hg : gk = 0
        · subst hg
          have h12 : ¬ (k : Int) - a < 12 := by omega
          have hkI : k = I := HE.out
          subst hkI
          try clear hi
          have HI2 := Lib.hid (show bad' l k a t = (decide (k = t) || decide (byteAt l k ≠ 58) || decide (k = a)) from rfl)
          have c0 := A1.out.1.cell (o := 0) rfl
          have c1 := A1.out.1.cell (o := 1) rfl
          have c2 := A1.out.1.cell (o := 2) rfl
          have f0 := A1.out.1.frozen 0
          have f1 := A1.out.1.frozen 1
          have f2 := A1.out.1.frozen 2
          by_cases k1 : k = t
          · have k1' : ((k : Int) == t) = true := by simp; omega
            have K1 := Lib.hid k1
            clear k1 hk hkt
            go_wp2_with fail
            have a := ((A1.out.1.set 0 (.string ⟨#[]⟩)).set 1 (.string ⟨#[]⟩)).set 2 (.int .i64 0)
            have q := ((A1.out.2.setCell (p := ⟨w.heap.size, 0, none⟩) (fun h => absurd h (by simp)) (.string ⟨#[]⟩)).setCell (p := ⟨w.heap.size, 1, none⟩) (fun h => absurd h (by simp)) (.string ⟨#[]⟩)).setCell (p := ⟨w.heap.size, 2, none⟩) (fun h => absurd h (by simp)) (.int .i64 0)
            generalize World.setCell _ _ _ = W2 at *
            have e0 := a.cell (o := 0) rfl
            have e1 := a.cell (o := 1) rfl
            have e2 := a.cell (o := 2) rfl
            exact bodyPost_ret (v := .tuple #[lineV [] [] 0, .int .i64 k]) (by simp [results, Try.results21, go_sem, e0, e1, e2]) rfl ⟨by rw [← HA.out, if_pos (by rw [HI2.out]; simp [K1.out])], q⟩
          · have k1' : ((k : Int) == t) = false := by simp; omega
            have hi2 := HIX.out.1 k (by omega)
            by_cases k2 : byteAt l k = 58
            · rw [k2] at hi2
              by_cases k3 : k = a
              · have k3' : ((k : Int) == a) = true := by simp; omega
                have K3 := Lib.hid k3
                clear k3 hk hak k2
                go_wp2_with fail
                have a := ((A1.out.1.set 0 (.string ⟨#[]⟩)).set 1 (.string ⟨#[]⟩)).set 2 (.int .i64 0)
                have q := ((A1.out.2.setCell (p := ⟨w.heap.size, 0, none⟩) (fun h => absurd h (by simp)) (.string ⟨#[]⟩)).setCell (p := ⟨w.heap.size, 1, none⟩) (fun h => absurd h (by simp)) (.string ⟨#[]⟩)).setCell (p := ⟨w.heap.size, 2, none⟩) (fun h => absurd h (by simp)) (.int .i64 0)
                generalize World.setCell _ _ _ = W2 at *
                have e0 := a.cell (o := 0) rfl
                have e1 := a.cell (o := 1) rfl
                have e2 := a.cell (o := 2) rfl
                exact bodyPost_ret (v := .tuple #[lineV [] [] 0, .int .i64 k]) (by simp [results, Try.results21, go_sem, e0, e1, e2]) rfl ⟨by rw [← HA.out, if_pos (by rw [HI2.out]; simp [K3.out])], q⟩
              · have k3' : ((k : Int) == a) = false := by simp; omega
                have s1 := HIX.out.2 a k (by omega) (by omega)
                have s2 := HIX.out.2 (k + 1) t (by omega) (by omega)
                rw [show ((k + 1 : Nat) : Int) = (k : Int) + 1 from rfl] at s2
                go_wp2_with fail
                go_region
                all_goals
                  go_wp2_with fail
                  have aa := ((A1.out.1.set 0 (str (sub l a k))).set 1 (str (sub l (k + 1) t))).set 2 (.int .i64 ((k : Int) + 1))
                  have q := ((A1.out.2.setCell (p := ⟨w.heap.size, 0, none⟩) (fun h => absurd h (by simp)) (str (sub l a k))).setCell (p := ⟨w.heap.size, 1, none⟩) (fun h => absurd h (by simp)) (str (sub l (k + 1) t))).setCell (p := ⟨w.heap.size, 2, none⟩) (fun h => absurd h (by simp)) (.int .i64 ((k : Int) + 1))
                  generalize World.setCell _ _ _ = W2 at *
                  have e0 := aa.cell (o := 0) rfl
                  have e1 := aa.cell (o := 1) rfl
                  have e2 := aa.cell (o := 2) rfl
                  exact bodyPost_ret (v := .tuple #[lineV (sub l a k) (sub l (k + 1) t) ((k : Int) + 1), .int .i64 (-1)]) (by simp [results, Try.results21, go_sem, e0, e1, e2]) rfl ⟨by rw [← HA.out, if_neg (by rw [HI2.out]; simp [k1, k2, k3])]; rfl, q.drew⟩
            · obtain ⟨c3, hc3⟩ : ∃ c3, byteAt l k = c3 := ⟨_, rfl⟩
              rw [hc3] at hi2
              have k2' : ((c3 : Int) != 58) = true := by simp; omega
              go_wp2_with fail
              have a := ((A1.out.1.set 0 (.string ⟨#[]⟩)).set 1 (.string ⟨#[]⟩)).set 2 (.int .i64 0)
              have q := ((A1.out.2.setCell (p := ⟨w.heap.size, 0, none⟩) (fun h => absurd h (by simp)) (.string ⟨#[]⟩)).setCell (p := ⟨w.heap.size, 1, none⟩) (fun h => absurd h (by simp)) (.string ⟨#[]⟩)).setCell (p := ⟨w.heap.size, 2, none⟩) (fun h => absurd h (by simp)) (.int .i64 0)
              generalize World.setCell _ _ _ = W2 at *
              have e0 := a.cell (o := 0) rfl
              have e1 := a.cell (o := 1) rfl
              have e2 := a.cell (o := 2) rfl
              exact bodyPost_ret (v := .tuple #[lineV [] [] 0, .int .i64 k]) (by simp [results, Try.results21, go_sem, e0, e1, e2]) rfl ⟨by rw [← HA.out, if_pos (by rw [HI2.out]; simp [k2])], q⟩
        · have h12 : (k : Int) - a < 12 := by omega
          go_wp2_with fail
          go_roundg (gk - 1)
          case measure => omega
          case rel =>
            refine ⟨k + 1, by go_num, by omega, by omega, by omega, ?_, rfl⟩
            obtain ⟨g, rfl⟩ : ∃ g, gk = g + 1 := ⟨gk - 1, by omega⟩
            rw [← HE.out, scan_go hlt HX.out, Nat.add_sub_cancel]
    · have hlt' : ¬ (k : Int) < t := by omega
      have hkI : k = I := by rw [← HE.out, scan_out hlt]
      subst hkI
      try clear hi
      have HI2 := Lib.hid (show bad' l k a t = (decide (k = t) || decide (byteAt l k ≠ 58) || decide (k = a)) from rfl)
      have c0 := A1.out.1.cell (o := 0) rfl
      have c1 := A1.out.1.cell (o := 1) rfl
      have c2 := A1.out.1.cell (o := 2) rfl
      have f0 := A1.out.1.frozen 0
      have f1 := A1.out.1.frozen 1
      have f2 := A1.out.1.frozen 2
      have k1 : k = t := by omega
      have k1' : ((k : Int) == t) = true := by simp; omega
      have K1 := Lib.hid k1
      clear k1 hk hkt
      go_wp2_with fail
      have a := ((A1.out.1.set 0 (.string ⟨#[]⟩)).set 1 (.string ⟨#[]⟩)).set 2 (.int .i64 0)
      have q := ((A1.out.2.setCell (p := ⟨w.heap.size, 0, none⟩) (fun h => absurd h (by simp)) (.string ⟨#[]⟩)).setCell (p := ⟨w.heap.size, 1, none⟩) (fun h => absurd h (by simp)) (.string ⟨#[]⟩)).setCell (p := ⟨w.heap.size, 2, none⟩) (fun h => absurd h (by simp)) (.int .i64 0)
      generalize World.setCell _ _ _ = W2 at *
      have e0 := a.cell (o := 0) rfl
      have e1 := a.cell (o := 1) rfl
      have e2 := a.cell (o := 2) rfl
      exact bodyPost_ret (v := .tuple #[lineV [] [] 0, .int .i64 k]) (by simp [results, Try.results21, go_sem, e0, e1, e2]) rfl ⟨by rw [← HA.out, if_pos (by rw [HI2.out]; simp [K1.out])], q⟩
end Go.Proofs.Ytcdemlfkoknekaa.Ref06
