/- The code's reader (layer 7) in memory: what it answers, or where it gives up; get, next, take, must. -/
import Derived.Test.YthcjfgfbeollpaaKG06
import Derived.WalkLawsBesides
namespace Go.Proofs.Ythcjfgfbeollpaa.P07
open Go.RowKit Go.Proofs.Ythcjfgfbeollpaa.Base

@[reducible] def rdcells (l : List UInt8) (s : PS) : Array Value := #[str l, .int .i64 s.pos, .int .i64 s.opn]
/-- The reader in block b. -/
def Rd (w : World) (b : Nat) (l : List UInt8) (s : PS) : Prop := At w b 124 (rdcells l s)
theorem Rd.keep {S : Nat → Prop} {w w' : World} {b : Nat} {l : List UInt8} {s : PS} (h : Rd w b l s) (q : Keep S w w') (hn : ¬ S b) : Rd w' b l s := At.keep h q hn

/-- It gives up at a place. -/
@[reducible] def Gave (x : Int) : Ending := .panicked [{ v := .iface 136 (.int .i64 x), recovered := false }]
/-- What f answers, or where it gives up. -/
def Outs {α : Type} (w : World) (b : Nat) (l : List UInt8) (V : World → Value → α → Prop) (r : α × PS) (e : Ending) (w' : World) : Prop :=
  (r.2.bad = none ∧ ∃ v, e = .returned v ∧ V w' v r.1 ∧ Rd w' b l r.2 ∧ Keep (fun i => i = b) w w') ∨ (∃ x, r.2.bad = some x ∧ e = Gave x ∧ Keep (fun i => i = b) w w')
theorem Outs.ok {α : Type} {w : World} {b : Nat} {l : List UInt8} {V : World → Value → α → Prop} {r : α × PS} {v : Value} {w' : World} (h : r.2.bad = none) (hv : V w' v r.1) (hr : Rd w' b l r.2) (q : Keep (fun i => i = b) w w') : Outs w b l V r (.returned v) w' :=
  .inl ⟨h, v, rfl, hv, hr, q⟩
theorem Outs.gave {α : Type} {w : World} {b : Nat} {l : List UInt8} {V : World → Value → α → Prop} {r : α × PS} {x : Nat} {w' : World} (h : r.2.bad = some x) (q : Keep (fun i => i = b) w w') : Outs w b l V r (Gave x) w' :=
  .inr ⟨x, h, rfl, q⟩

set_option maxRecDepth 100000 in
set_option maxHeartbeats 1000000 in
theorem get_some (b : Nat) (l : List UInt8) (s : PS) (hlt : s.pos < l.length) (hl : l.length ≤ 100000000) (w : World) (h : Rd w b l s) :
    Calls Try.prog 133 #[.pointer (some ⟨b, 0, none⟩)] w fun e w' => e = .returned (.int .u8 (byteAt l s.pos)) ∧ Rd w' b l s.adv ∧ Keep (fun i => i = b) w w' := by
  have c0 : w.cell? ⟨b, 0, none⟩ = some (str l) := h.cell (o := 0) rfl
  have c1 : w.cell? ⟨b, 1, none⟩ = some (.int .i64 s.pos) := h.cell (o := 1) rfl
  have f1 := h.frozen 1
  have hs := size_str l
  have i1 := index_run l s.pos hlt
  have hbt := byteAt_lt l s.pos
  have h' : Rd (w.setCell ⟨b, 1, none⟩ (.int .i64 ((s.pos : Int) + 1))) b l s.adv := h.set 1 (.int .i64 ((s.pos : Int) + 1))
  have hw1 : IntKind.i64.wrap ((s.pos : Int) + 1) = (s.pos : Int) + 1 := by rw [IntKind.wrap_i64]; omega
  have hw2 : IntKind.i64.wrap ((s.pos : Int) + 1 - 1) = (s.pos : Int) := by rw [IntKind.wrap_i64]; omega
  have he : ((s.pos : Int) == (l.length : Int)) = false := by simp; omega
  have c0' : (w.setCell ⟨b, 1, none⟩ (.int .i64 ((s.pos : Int) + 1))).cell? ⟨b, 0, none⟩ = some (str l) := h'.cell (o := 0) rfl
  have c1' : (w.setCell ⟨b, 1, none⟩ (.int .i64 ((s.pos : Int) + 1))).cell? ⟨b, 1, none⟩ = some (.int .i64 ((s.pos : Int) + 1)) := h'.cell (o := 1) rfl
  obtain ⟨B, hB⟩ : ∃ B : ByteArray, (⟨l.toArray⟩ : ByteArray) = B := ⟨_, rfl⟩
  unfold str at i1 c0 c0'
  rw [hB] at hs i1 c0 c0'
  have HH := Lib.hid (And.intro h' trivial)
  clear hB h h'
  go_enter Try.func133, Try.ntmps133
  go_wp2_with fail
  go_quiet (fail)
  go_wp2_with fail
  go_quiet (fail)
  go_wp2_with fail
  go_ret
  exact ⟨rfl, HH.out.1, (((Keep.refl (fun i => i = b) w).drewN _).setCell (p := ⟨b, 1, none⟩) (fun _ => rfl) _).drewN _⟩

set_option maxRecDepth 100000 in
set_option maxHeartbeats 1000000 in
theorem get_end (b : Nat) (l : List UInt8) (s : PS) (he : s.pos = l.length) (w : World) (h : Rd w b l s) :
    Calls Try.prog 133 #[.pointer (some ⟨b, 0, none⟩)] w fun e w' => e = Gave s.pos ∧ Keep (fun _ => False) w w' := by
  have c0 : w.cell? ⟨b, 0, none⟩ = some (str l) := h.cell (o := 0) rfl
  have c1 : w.cell? ⟨b, 1, none⟩ = some (.int .i64 s.pos) := h.cell (o := 1) rfl
  have hs := size_str l
  have H0 := Lib.hid he
  have he : ((s.pos : Int) == (l.length : Int)) = true := by simp; omega
  obtain ⟨B, hB⟩ : ∃ B : ByteArray, (⟨l.toArray⟩ : ByteArray) = B := ⟨_, rfl⟩
  unfold str at c0
  rw [hB] at hs c0
  clear hB h
  go_enter Try.func133, Try.ntmps133
  go_wp2_with fail
  go_quiet (fail)
  go_wp2_with fail
  exact ⟨rfl, by rw [H0.out], (Keep.refl _ _).drewN _⟩

set_option maxRecDepth 100000 in
set_option maxHeartbeats 1000000 in
theorem rnext_any (b c : Nat) (l : List UInt8) (s : PS) (hb : s.bad = none) (w : World) (h : Rd w b l s) :
    Calls Try.prog 115 #[.pointer (some ⟨b, 0, none⟩), .int .u8 c] w fun e w' => e = .returned (.bool (decide (nxt l s = c))) ∧ Keep (fun _ => False) w w' := by
  have c0 : w.cell? ⟨b, 0, none⟩ = some (str l) := h.cell (o := 0) rfl
  have c1 : w.cell? ⟨b, 1, none⟩ = some (.int .i64 s.pos) := h.cell (o := 1) rfl
  have hs := size_str l
  have hix := index_run l
  obtain ⟨B, hB⟩ : ∃ B : ByteArray, (⟨l.toArray⟩ : ByteArray) = B := ⟨_, rfl⟩
  unfold str at c0 hix
  rw [hB] at hs c0 hix
  clear hB h
  by_cases hlt : s.pos < l.length
  · have i1 := hix s.pos hlt
    have hn : nxt l s = byteAt l s.pos := by unfold nxt; rw [if_pos ⟨hb, hlt⟩]
    have hbt := byteAt_lt l s.pos
    rw [hn]
    obtain ⟨t, ht⟩ : ∃ t, decide ((byteAt l s.pos : Int) = c) = t := ⟨_, rfl⟩
    rw [ht]
    have hq : ((byteAt l s.pos : Int) == (c : Int)) = t := by rw [← ht]; rfl
    have hlti : (s.pos : Int) < l.length := by omega
    generalize byteAt l s.pos = u at *
    clear hix hn ht hb
    go_enter Try.func115, Try.ntmps115
    go_wp2_with fail
    go_quiet (fail)
    go_wp2_with fail
    go_ret
    exact ⟨rfl, (Keep.refl _ _).drewN _⟩
  · have hn : nxt l s = -1 := nxt_fin (by omega)
    have hq : decide (nxt l s = c) = false := by rw [hn]; simp
    rw [hq]
    have hlti : ¬ (s.pos : Int) < l.length := by omega
    clear hix hn hq hb
    go_enter Try.func115, Try.ntmps115
    go_wp2_with fail
    go_quiet (fail)
    go_wp2_with fail
    go_ret
    exact ⟨rfl, (Keep.refl _ _).drewN _⟩

/-- The byte c stands there: it is taken. -/
theorem take_yes (b c : Nat) (l : List UInt8) (s : PS) (hn : nxt l s = c) (hl : l.length ≤ 100000000) (w : World) (h : Rd w b l s) :
    Calls Try.prog 112 #[.pointer (some ⟨b, 0, none⟩), .int .u8 c] w fun e w' => e = .returned (.bool true) ∧ Rd w' b l s.adv ∧ Keep (fun i => i = b) w w' := by
  have hlt := nxt_lt (l := l) (s := s) (by omega)
  have hc := fun w h => rnext_any b c l s hlt.1 w h
  rw [decide_eq_true hn] at hc
  have HC := Lib.hid (And.intro hc h)
  have hw1 : IntKind.i64.wrap ((s.pos : Int) + 1) = (s.pos : Int) + 1 := by rw [IntKind.wrap_i64]; omega
  clear hc h hn hlt
  go_enter Try.func112, Try.ntmps112
  go_wp2_with fail
  refine (HC.out.1 w HC.out.2).mono ?_
  rintro e w1 ⟨rfl, q1⟩
  have h1 := HC.out.2.keep q1 (fun h => h)
  have c1 : w1.cell? ⟨b, 1, none⟩ = some (.int .i64 s.pos) := h1.cell (o := 1) rfl
  have f1 := h1.frozen 1
  have h2 : Rd (w1.setCell ⟨b, 1, none⟩ (.int .i64 ((s.pos : Int) + 1))) b l s.adv := h1.set 1 (.int .i64 ((s.pos : Int) + 1))
  have H1 := Lib.hid (And.intro h2 q1)
  clear h1 h2 q1
  go_wp2_with fail
  go_ret
  exact ⟨rfl, H1.out.1, (H1.out.2.mono (T := fun i => i = b) (fun _ h => h.elim)).setCell (p := ⟨b, 1, none⟩) (fun _ => rfl) _⟩
/-- .. it doesn't. -/
theorem take_no (b c : Nat) (l : List UInt8) (s : PS) (hb : s.bad = none) (hn : nxt l s ≠ c) (w : World) (h : Rd w b l s) :
    Calls Try.prog 112 #[.pointer (some ⟨b, 0, none⟩), .int .u8 c] w fun e w' => e = .returned (.bool false) ∧ Rd w' b l s ∧ Keep (fun i => i = b) w w' := by
  have hc := fun w h => rnext_any b c l s hb w h
  rw [decide_eq_false hn] at hc
  have HC := Lib.hid (And.intro hc h)
  clear hc h hn hb
  go_enter Try.func112, Try.ntmps112
  go_wp2_with fail
  refine (HC.out.1 w HC.out.2).mono ?_
  rintro e w1 ⟨rfl, q1⟩
  have H1 := Lib.hid q1
  clear q1
  go_wp2_with fail
  go_ret
  exact ⟨rfl, HC.out.2.keep H1.out (fun h => h), H1.out.mono (fun _ h => h.elim)⟩

/-- must. -/
theorem must_yes (b c : Nat) (l : List UInt8) (s : PS) (hn : nxt l s = c) (hl : l.length ≤ 100000000) (w : World) (h : Rd w b l s) :
    Calls Try.prog 126 #[.pointer (some ⟨b, 0, none⟩), .int .u8 c] w fun e w' => e = .returned (.tuple #[]) ∧ Rd w' b l s.adv ∧ Keep (fun i => i = b) w w' := by
  have HC := Lib.hid (And.intro (take_yes b c l s hn hl) h)
  clear h hn
  go_enter Try.func126, Try.ntmps126
  go_wp2_with fail
  refine (HC.out.1 w HC.out.2).mono ?_
  rintro e w1 ⟨rfl, h1, q1⟩
  have H1 := Lib.hid (And.intro h1 q1)
  clear h1 q1
  go_wp2_with fail
  go_end0
  exact ⟨rfl, H1.out⟩
theorem must_no (b c : Nat) (l : List UInt8) (s : PS) (hb : s.bad = none) (hn : nxt l s ≠ c) (w : World) (h : Rd w b l s) :
    Calls Try.prog 126 #[.pointer (some ⟨b, 0, none⟩), .int .u8 c] w fun e w' => e = Gave s.pos ∧ Keep (fun i => i = b) w w' := by
  have HC := Lib.hid (And.intro (take_no b c l s hb hn) h)
  clear h hn hb
  go_enter Try.func126, Try.ntmps126
  go_wp2_with fail
  refine (HC.out.1 w HC.out.2).mono ?_
  rintro e w1 ⟨rfl, h1, q1⟩
  have c1 : w1.cell? ⟨b, 1, none⟩ = some (.int .i64 s.pos) := h1.cell (o := 1) rfl
  have H1 := Lib.hid q1
  clear h1 q1
  go_wp2_with fail
  exact ⟨rfl, rfl, H1.out⟩
/-- .. as the grammar has it. -/
theorem rmust_any (b c : Nat) (l : List UInt8) (s : PS) (hb : s.bad = none) (hl : l.length ≤ 100000000) (w : World) (h : Rd w b l s) :
    Calls Try.prog 126 #[.pointer (some ⟨b, 0, none⟩), .int .u8 c] w (Outs w b l (fun _ v _ => v = .tuple #[]) (must c l s)) := by
  by_cases hn : nxt l s = c
  · refine (must_yes b c l s hn hl w h).mono ?_
    rintro e w1 ⟨rfl, h1, q1⟩
    have e1 : (must c l s).2 = s.adv := by unfold must; rw [if_pos hn]
    exact Outs.ok (by rw [e1]; exact hb) rfl (by rw [e1]; exact h1) q1
  · refine (must_no b c l s hb hn w h).mono ?_
    rintro e w1 ⟨rfl, q1⟩
    have e1 : (must c l s).2 = (s.fail s.pos).adv := by unfold must; rw [if_neg hn]
    exact Outs.gave (by rw [e1]; unfold PS.fail; rw [if_pos hb]; rfl) q1
end Go.Proofs.Ythcjfgfbeollpaa.P07
