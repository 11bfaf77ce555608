/- The code's bracketed, timesRight, fieldsRight (layer 8). -/
import Derived.Test.YtmeiboaagkoadaaGreatDoorKK34
import Derived.Test.YtmeiboaagkoadaaGreatDoorKK02
import Derived.Test.YtmeiboaagkoadaaGreatDoorKK33
import Derived.Test.YtmeiboaagkoadaaGreatDoorKK12
namespace Go.Proofs.YtmeiboaagkoadaaGreatDoor.P08
open Go.RowKit Go.Proofs.YtmeiboaagkoadaaGreatDoor.Base Go.Proofs.YtmeiboaagkoadaaGreatDoor.Bytes Go.Proofs.YtmeiboaagkoadaaGreatDoor.P07
open Go.Proofs.YtmeiboaagkoadaaGreatDoor.Sets (ST)

/-- A node at an address. -/
structure NodeP (w : World) (bl o : Nat) (t : T) (a : Option Addr) (c : Nat) : Prop where
  lt : bl < w.heap.size
  cs : ∀ j v, (ncells t a c)[j]? = some v → w.cell? ⟨bl, o + j, none⟩ = some v
theorem NodeP.keep {S : Nat → Prop} {w w' : World} {bl o : Nat} {t : T} {a : Option Addr} {c : Nat} (h : NodeP w bl o t a c) (q : Keep S w w') (hS : ¬ S bl) : NodeP w' bl o t a c :=
  ⟨Nat.lt_of_lt_of_le h.lt q.size, fun j v hv => (q.cell (a := ⟨bl, o + j, none⟩) h.lt hS).trans (h.cs j v hv)⟩
theorem NodeP.keepF {w w' : World} {bl o : Nat} {t : T} {a : Option Addr} {c : Nat} (h : NodeP w bl o t a c) (q : Keep (fun _ => False) w w') : NodeP w' bl o t a c := h.keep q (fun h => h)
theorem NodeP.of_at {w : World} {b : Nat} {t : T} {a : Option Addr} {c : Nat} {ty : TypeId} (h : At w b ty (ncells t a c)) : NodeP w b 0 t a c :=
  ⟨h.lt, fun j v hv => by rw [Nat.zero_add]; exact h.cell hv⟩
/-- Its eight cells. -/
theorem NodeP.eight {w : World} {bl o : Nat} {t : T} {a : Option Addr} {c : Nat} (h : NodeP w bl o t a c) :
    w.cell? ⟨bl, o, none⟩ = some (.int .i64 t.kind) ∧ w.cell? ⟨bl, o + 1, none⟩ = some (.int .u64 t.set.x0) ∧ w.cell? ⟨bl, o + 2, none⟩ = some (.int .u64 t.set.x1) ∧ w.cell? ⟨bl, o + 3, none⟩ = some (.int .u64 t.set.x2) ∧ w.cell? ⟨bl, o + 4, none⟩ = some (.int .u64 t.set.x3) ∧ w.cell? ⟨bl, o + 5, none⟩ = some (.int .i64 t.mn) ∧ w.cell? ⟨bl, o + 6, none⟩ = some (.int .i64 t.mx) ∧ w.cell? ⟨bl, o + 7, none⟩ = some (.slice a t.subs.length c) :=
  ⟨h.cs 0 _ rfl, h.cs 1 _ rfl, h.cs 2 _ rfl, h.cs 3 _ rfl, h.cs 4 _ rfl, h.cs 5 _ rfl, h.cs 6 _ rfl, h.cs 7 _ rfl⟩

set_option maxRecDepth 100000 in
set_option maxHeartbeats 4000000 in
theorem brk_is {k j : Int} {r : Bool} (hr : rnd k j = r) (w : World) : Calls Tryz.prog 31 #[.int .i64 k, .int .i64 j] w fun e w' => e = .returned (.bool r) ∧ w = w' := by
  subst hr
  go_enter Tryz.func31, Tryz.ntmps31
  go_wp2_with fail
  all_goals
    go_ret
    refine ⟨Bytes.ret_bool ?_, rfl⟩
    rw [Bool.eq_iff_iff]
    unfold rnd
    try simp_all
    try omega

/-- The bounds of a repetition. -/
def tmsB (lo hi : Int) : Bool := decide (0 ≤ lo) && (decide (lo ≤ 20) && (decide (hi = -1) || (decide (lo ≤ hi) && decide (hi ≤ 20))))
set_option maxRecDepth 100000 in
set_option maxHeartbeats 4000000 in
theorem tms_is {lo hi : Int} {r : Bool} (hr : tmsB lo hi = r) (w : World) : Calls Tryz.prog 58 #[.int .i64 lo, .int .i64 hi] w fun e w' => e = .returned (.bool r) ∧ w = w' := by
  subst hr
  go_enter Tryz.func58, Tryz.ntmps58
  go_wp2_with fail
  all_goals
    go_ret
    refine ⟨Bytes.ret_bool ?_, rfl⟩
    rw [Bool.eq_iff_iff]
    unfold tmsB
    try simp_all
    try omega

set_option maxRecDepth 100000 in
set_option maxHeartbeats 8000000 in
theorem fields_any (t : T) (bl o : Nat) (a : Option Addr) (c : Nat) (w : World) (h : NodeP w bl o t a c) : Calls Tryz.prog 34 #[.pointer (some ⟨bl, o, none⟩)] w fun e w' => e = .returned (.bool (bareB t)) ∧ Keep (fun _ => False) w w' := by
  obtain ⟨E, hE⟩ : ∃ E, eqB t.set ST.none = E := ⟨_, rfl⟩
  have es : ∀ W, (Op.equalIn 10000 24 (.agg #[.int .u64 (t.set.x0 : Int), .int .u64 (t.set.x1 : Int), .int .u64 (t.set.x2 : Int), .int .u64 (t.set.x3 : Int)]) (.agg #[.int .u64 0, .int .u64 0, .int .u64 0, .int .u64 0])).run Tryz.prog W = .ok E W := fun W => by
    rw [← hE]
    exact eq_set t.set ST.none W
  have HE := Lib.hid hE
  have HP := Lib.hid h
  have hk : (t.kind == 1) = true ∨ ((t.kind == 1) = false ∧ (t.kind == 2) = true) ∨ True := .inr (.inr trivial)
  obtain ⟨c0, c1, c2, c3, c4, c5, c6, c7⟩ := h.eight
  clear hE h hk
  obtain ⟨R, hR⟩ : ∃ R, tmsB t.mn t.mx = R := ⟨_, rfl⟩
  have HR := Lib.hid hR
  clear hR
  have hz : ((t.mn == 0) = true ∧ (t.mx == 0) = true ∧ t.mn = 0 ∧ t.mx = 0) ∨ ((t.mn == 0) = true ∧ (t.mx == 0) = false ∧ ¬ (t.mn = 0 ∧ t.mx = 0)) ∨ ((t.mn == 0) = false ∧ ¬ (t.mn = 0 ∧ t.mx = 0)) := by
    by_cases h1 : t.mn = 0 <;> by_cases h2 : t.mx = 0 <;> simp [h1, h2]
  have q : ∀ k, Keep (fun _ => False) w (w.drewN k) := fun k => (Keep.refl _ w).drewN k
  have HQ := Lib.hid q
  clear q
  by_cases h5 : t.kind = 5
  · have k1 : (t.kind == 1) = false := by simp [h5]
    have k2 : (t.kind == 2) = false := by simp [h5]
    have k3 : (t.kind == 3) = false := by simp [h5]
    have k4 : (t.kind == 4) = false := by simp [h5]
    have k5 : (t.kind == 5) = true := by simp [h5]
    have hb : bareB t = (E && (decide (t.subs.length = 1) && R)) := by
      unfold bareB
      rw [if_neg (by omega), if_neg (by omega), if_neg (by omega), if_pos h5, HE.out, ← HR.out]
      rfl
    rw [hb]
    clear hb h5
    have hl : (((t.subs.length : Int) == 1) = true ∧ t.subs.length = 1) ∨ (((t.subs.length : Int) == 1) = false ∧ ¬ t.subs.length = 1) := by
      by_cases h1 : t.subs.length = 1
      · exact .inl ⟨by simp [h1], h1⟩
      · exact .inr ⟨by simp; omega, h1⟩
    rcases hz with ⟨z1, z2, -, -⟩ | ⟨z1, z2, -⟩ | ⟨z1, -⟩
    all_goals
      rcases hl with ⟨l1, l2⟩ | ⟨l1, l2⟩
    all_goals
      have HL := Lib.hid l2
      clear l2
      cases E <;> cases R
    all_goals
      go_enter Tryz.func34, Tryz.ntmps34
      go_wp2_with fail
      go_quiet (fail)
      go_wp2_with fail
      go_quiet ((go_at_call 58; exact quiet_same2 (tms_is HR.out _)))
      go_wp2_with fail
      go_ret
      exact ⟨Bytes.ret_bool (by simp [HL.out]), (HQ.out _).drewN _⟩
  · have k5 : (t.kind == 5) = false := by simp [h5]
    have H5 := Lib.hid h5
    clear h5
    rcases hz with ⟨z1, z2, z3, z4⟩ | ⟨z1, z2, z3⟩ | ⟨z1, z3⟩
    · have HZ := Lib.hid (And.intro z3 z4)
      clear z3 z4
      cases E
      all_goals
        go_enter Tryz.func34, Tryz.ntmps34
        go_wp2_with fail
        go_quiet (fail)
        go_wp2_with fail
        all_goals
          go_ret
          refine ⟨Bytes.ret_bool ?_, HQ.out _⟩
          have h5 := H5.out
          have hz := HZ.out
          rw [Bool.eq_iff_iff]
          unfold bareB
          rw [HE.out]
          clear es HE c0 c1 c2 c3 c4 c5 c6 c7
          try simp_all
          try omega
    · have HZ := Lib.hid z3
      clear z3
      cases E
      all_goals
        go_enter Tryz.func34, Tryz.ntmps34
        go_wp2_with fail
        go_quiet (fail)
        go_wp2_with fail
        all_goals
          go_ret
          refine ⟨Bytes.ret_bool ?_, HQ.out _⟩
          have h5 := H5.out
          have hz := HZ.out
          rw [Bool.eq_iff_iff]
          unfold bareB
          rw [HE.out]
          clear es HE c0 c1 c2 c3 c4 c5 c6 c7
          try simp_all
          try omega
    · have HZ := Lib.hid z3
      clear z3
      cases E
      all_goals
        go_enter Tryz.func34, Tryz.ntmps34
        go_wp2_with fail
        go_quiet (fail)
        go_wp2_with fail
        all_goals
          go_ret
          refine ⟨Bytes.ret_bool ?_, HQ.out _⟩
          have h5 := H5.out
          have hz := HZ.out
          rw [Bool.eq_iff_iff]
          unfold bareB
          rw [HE.out]
          clear es HE c0 c1 c2 c3 c4 c5 c6 c7
          try simp_all
          try omega
end Go.Proofs.YtmeiboaagkoadaaGreatDoor.P08
/- The code's right and Right (layer 8). -/
namespace Go.Proofs.YtmeiboaagkoadaaGreatDoor.P08
open Go.RowKit Go.Proofs.YtmeiboaagkoadaaGreatDoor.Base Go.Proofs.YtmeiboaagkoadaaGreatDoor.Bytes Go.Proofs.YtmeiboaagkoadaaGreatDoor.P07
open Go.Proofs.YtmeiboaagkoadaaGreatDoor.Sets (ST)

set_option maxRecDepth 100000 in
set_option maxHeartbeats 4000000 in
theorem cright_step (n : Nat) (ih : ∀ (t : T), SizeOf.sizeOf t < n → ∀ (d : Nat) (op : Int), 0 ≤ op → op + d = 13 → ∀ (bl o : Nat) (a : Option Addr) (c : Nat) (w : World), NodeP w bl o t a c → Lie w (fun _ => True) a t.subs → Calls Tryz.prog 18 #[.pointer (some ⟨bl, o, none⟩), .int .i64 op] w fun e w' => e = .returned (.bool (rgt d t)) ∧ Keep (fun _ => False) w w')
    (t : T) (hn : SizeOf.sizeOf t < n + 1) (d : Nat) (op : Int) (ho : 0 ≤ op) (hop : op + d = 13) (bl o : Nat) (a : Option Addr) (c : Nat) (w : World) (hP : NodeP w bl o t a c) (hL : Lie w (fun _ => True) a t.subs) :
    Calls Tryz.prog 18 #[.pointer (some ⟨bl, o, none⟩), .int .i64 op] w fun e w' => e = .returned (.bool (rgt d t)) ∧ Keep (fun _ => False) w w' := by
  have hlen := hL.len
  match d, hop with
  | 0, hop =>
    have h1 : 12 < op := by omega
    rw [rgt_zero]
    clear ih hP hL hlen hop hn
    go_enter Tryz.func18, Tryz.ntmps18
    go_wp2_with fail
    go_ret
    exact ⟨rfl, Keep.refl _ _⟩
  | d + 1, hop =>
    have h1 : ¬ 12 < op := by omega
    obtain ⟨B, hB⟩ : ∃ B, bareB t = B := ⟨_, rfl⟩
    obtain ⟨D, hD⟩ : ∃ D, rgtL d t.kind t.subs = D := ⟨_, rfl⟩
    rw [rgt_succ, hB, hD]
    have hF := fields_any t bl o a c w hP
    rw [hB] at hF
    have H0 := Lib.hid (And.intro hP (And.intro hL (And.intro ih (And.intro hD hF))))
    clear hP hL ih hD hF hB
    go_enter Tryz.func18, Tryz.ntmps18
    go_wp2_with fail
    refine H0.out.2.2.2.2.mono ?_
    rintro e w1 ⟨rfl, q1⟩
    have Q1 := Lib.hid q1
    cases B with
    | false =>
      clear q1
      go_wp2_with fail
      go_ret
      exact ⟨rfl, Q1.out⟩
    | true =>
      have hP1 := H0.out.1.keepF q1
      obtain ⟨c0, -, -, -, -, -, -, c7⟩ := hP1.eight
      have HP1 := Lib.hid hP1
      clear q1 hP1
      go_wp2_with fail
      clear c0 c7
      go_loopg [5, 6, 19] t.subs.length (fun gg s5 s6 i wr => ∃ k : Nat, i = .int .i64 k ∧ k + gg = t.subs.length ∧ rgtL d t.kind (t.subs.take k) = true ∧ Keep (fun _ => False) w1 wr)
      case atStart => exact ⟨0, rfl, by omega, by rw [List.take_zero, rgtL], Keep.refl _ _⟩
      case round =>
        obtain ⟨k, rfl, hk, h0, hq⟩ := hrel
        obtain ⟨c0, -, -, -, -, -, -, c7⟩ := (HP1.out.keepF hq).eight
        by_cases hlt : k < t.subs.length
        · have hlt' : (k : Int) < t.subs.length := by omega
          obtain ⟨s, hs⟩ : ∃ s, t.subs[k]? = some s := ⟨t.subs[k], List.getElem?_eq_getElem hlt⟩
          have LL := Lib.hid (H0.out.2.1.keepF (Q1.out.trans hq))
          obtain ⟨b2, off, a1, e1, rfl, -, hbl, -, L1, C1⟩ := LL.out.get hs
          have N1 : NodeP wr b2 (off + k * 8) s a1 e1 := ⟨hbl, C1⟩
          obtain ⟨d0, -⟩ := N1.eight
          have hsl := sub_less hs
          obtain ⟨r, hr⟩ : ∃ r, rnd t.kind s.kind = r := ⟨_, rfl⟩
          obtain ⟨ans, hans⟩ : ∃ x, rgt (if r then d else d + 1) s = x := ⟨_, rfl⟩
          have hcall := fun (m : Nat) => H0.out.2.2.1 s (by omega) (if r then d else d + 1) (if r then op + 1 else op) (by cases r <;> simp <;> omega) (by cases r <;> simp <;> omega) b2 (off + k * 8) a1 e1 (wr.drewN m) (N1.keepF ((Keep.refl _ _).drewN m)) (L1.keepF ((Keep.refl _ _).drewN m))
          rw [hans] at hcall
          have HA := Lib.hid (And.intro hr (And.intro hans (And.intro hs (And.intro hq (And.intro h0 hcall)))))
          have i0 : (0 : Int) ≤ k := by omega
          have j1 : IntKind.i64.wrap (op + 1) = op + 1 := by rw [IntKind.wrap_i64]; omega
          clear hr hans hs hq h0 hcall N1 L1 C1
          go_wp2_with fail
          go_quiet ((go_at_call 31; exact quiet_same (brk_is HA.out.1 _)))
          cases r
          all_goals
            go_wp2_with fail
            refine (HA.out.2.2.2.2.2 _).mono ?_
            rintro e w2 ⟨rfl, q2⟩
            have HQ := Lib.hid (HA.out.2.2.2.1.trans (((Keep.refl _ _).drewN nq).trans q2))
            clear q2
            cases ans
            · have HD : D = false := by
                rw [← H0.out.2.2.2.1]
                exact rgtL_not t.subs k s HA.out.2.2.1 (by rw [HA.out.1]; exact HA.out.2.1)
              subst HD
              go_wp2_with fail
              go_ret
              exact ⟨rfl, Q1.out.trans HQ.out⟩
            · have HK := Lib.hid (rgtL_take t.subs k s HA.out.2.2.1 HA.out.2.2.2.2.1 (by rw [HA.out.1]; exact HA.out.2.1))
              go_wp2_with fail
              go_roundg (t.subs.length - (k + 1))
              case measure => omega
              case rel => exact ⟨k + 1, by go_num, by omega, HK.out, HQ.out⟩
        · have hke : k = t.subs.length := by omega
          subst hke
          rw [List.take_length] at h0
          have HD : D = true := by rw [← H0.out.2.2.2.1]; exact h0
          subst HD
          have HQ := Lib.hid hq
          clear hq h0
          go_wp2_with fail
          go_ret
          exact ⟨rfl, Q1.out.trans HQ.out⟩
theorem cright_all : ∀ (n : Nat) (t : T), SizeOf.sizeOf t < n → ∀ (d : Nat) (op : Int), 0 ≤ op → op + d = 13 → ∀ (bl o : Nat) (a : Option Addr) (c : Nat) (w : World), NodeP w bl o t a c → Lie w (fun _ => True) a t.subs → Calls Tryz.prog 18 #[.pointer (some ⟨bl, o, none⟩), .int .i64 op] w fun e w' => e = .returned (.bool (rgt d t)) ∧ Keep (fun _ => False) w w'
  | 0, _, h => absurd h (Nat.not_lt_zero _)
  | n + 1, t, h => fun d op ho hop bl o a c w hP hL => cright_step n (cright_all n) t h d op ho hop bl o a c w hP hL

set_option maxRecDepth 100000 in
/-- THE CODE'S RIGHT. -/
theorem cRight_any (t : T) (hs : SOk t) (a : Option Addr) (c : Nat) (w : World) (hL : Lie w (fun _ => True) a t.subs) : Calls Tryz.prog 8 #[nodeV t a c] w fun e w' => e = .returned (.bool (rightB t)) ∧ Keep (fun _ => False) w w' := by
  have a0 := At.new w (ncells t a c) 27
  have q := (Keep.refl (fun _ => False) w).alloc (.cells (ncells t a c) 27)
  have hcall := cright_all _ t (Nat.lt_succ_self _) 13 0 (by decide) (by decide) w.heap.size 0 a c _ (NodeP.of_at a0) (hL.keepF q)
  rw [rgt_right hs] at hcall
  obtain ⟨r, hr⟩ : ∃ r, rightB t = r := ⟨_, rfl⟩
  rw [hr] at hcall ⊢
  have HQ := Lib.hid (And.intro hcall q)
  clear hcall q hr a0
  go_enter Tryz.func8, Tryz.ntmps8
  go_wp2_with fail
  refine HQ.out.1.mono ?_
  rintro e w1 ⟨rfl, q1⟩
  have HQ1 := Lib.hid (HQ.out.2.trans q1)
  clear q1
  go_wp2
  go_ret
  exact ⟨rfl, HQ1.out⟩
end Go.Proofs.YtmeiboaagkoadaaGreatDoor.P08
/- Plain (layer 7, for layer 8): what is read has no more nodes than twice its bytes. -/
namespace Go.Proofs.YtmeiboaagkoadaaGreatDoor.P08
open Go.Proofs.YtmeiboaagkoadaaGreatDoor.P07
open Go.Proofs.YtmeiboaagkoadaaGreatDoor.Sets (ST)

theorem tame_le {α : Type} {f : List UInt8 → PS → α × PS} (hf : Tame f) {l : List UInt8} {s : PS} (h : (f l s).2.bad = none) : s.pos ≤ (f l s).2.pos := by
  rcases Nat.eq_zero_or_pos s.pos with h0 | h0
  · omega
  · have := hf.fore h (n := s.pos - 1) (by omega)
    omega
theorem cnt_cls (s : ST) : cnt (clsT s) = 1 := by unfold clsT; rw [cnt, cntL]
theorem cnt_rep (a : T) (lo hi : Int) : cnt (repT a lo hi) = cnt a + 1 := by unfold repT; rw [cnt, cntL, cntL]; omega
def Sm (f : List UInt8 → PS → T × PS) : Prop := ∀ l s, (f l s).2.bad = none → cnt (f l s).1 + 2 * s.pos ≤ 2 * (f l s).2.pos + 1
theorem atom_sm {F : Nat} {A : List UInt8 → PS → T × PS} (hA : Tame A) (hs : Sm A) (l : List UInt8) (s : PS) (h : (atomP F A l s).2.bad = none) : cnt (atomP F A l s).1 + 2 * s.pos + 1 ≤ 2 * (atomP F A l s).2.pos := by
  have hm := atom_moves F hA l s h
  unfold atomP atomB at h hm ⊢
  by_cases h1 : P07.nxt l s = 40
  · rw [if_pos h1] at h hm ⊢
    by_cases h2 : s.opn = 12
    · rw [if_pos h2] at h
      exact absurd h (fail_bad _ _)
    · rw [if_neg h2] at h hm ⊢
      unfold parP at h hm ⊢
      dsimp only at h hm ⊢
      have h3 := before (must_tame 41 (by decide)) h
      dsimp only at h3
      have h4 := hs l { s.adv with opn := s.adv.opn + 1 } h3
      have h5 := tame_le (must_tame 41 (by decide)) h
      dsimp only [PS.adv] at h4 h5
      simp only [PS.adv] at *
      omega
  · rw [if_neg h1] at h hm ⊢
    by_cases h2 : P07.nxt l s = 46
    · rw [if_pos h2] at h hm ⊢
      rw [cnt_cls]
      omega
    · rw [if_neg h2] at h hm ⊢
      by_cases h3 : P07.nxt l s = 91
      · rw [if_pos h3] at h hm ⊢
        unfold clsP clsB at hm ⊢
        split
        · rename_i h4
          rw [if_pos h4] at hm
          unfold clsQ at hm ⊢
          rw [cnt_cls]
          omega
        · rename_i h4
          rw [if_neg h4] at hm
          unfold clsQ at hm ⊢
          rw [cnt_cls]
          omega
      · rw [if_neg h3] at h hm ⊢
        unfold litP at hm ⊢
        rw [cnt_cls]
        omega
theorem item_sm {F : Nat} {A : List UInt8 → PS → T × PS} (hA : Tame A) (hs : Sm A) (l : List UInt8) (s : PS) (h : (itemP F A l s).2.bad = none) : cnt (itemP F A l s).1 + 2 * s.pos + 1 ≤ 2 * (itemP F A l s).2.pos := by
  unfold itemP at h ⊢
  have h0 := before (sg_tame (atomP F A l s).1) h
  have h1 := atom_sm hA hs l s h0
  generalize atomP F A l s = x at *
  unfold sgB at h ⊢
  by_cases c1 : P07.nxt l x.2 = 42
  · rw [if_pos c1, cnt_rep]
    show _ ≤ 2 * (x.2.pos + 1)
    omega
  · rw [if_neg c1] at h ⊢
    by_cases c2 : P07.nxt l x.2 = 43
    · rw [if_pos c2, cnt_rep]
      show _ ≤ 2 * (x.2.pos + 1)
      omega
    · rw [if_neg c2] at h ⊢
      by_cases c3 : P07.nxt l x.2 = 63
      · rw [if_pos c3, cnt_rep]
        show _ ≤ 2 * (x.2.pos + 1)
        omega
      · rw [if_neg c3] at h ⊢
        by_cases c4 : P07.nxt l x.2 = 123
        · rw [if_pos c4] at h ⊢
          rw [cnt_rep]
          have := braces_tame.step h
          show _ ≤ 2 * (braces l x.2.adv).2.pos
          omega
        · rw [if_neg c4]
          exact h1
theorem catL_sm {F : Nat} {A : List UInt8 → PS → T × PS} (hA : Tame A) (hs : Sm A) : ∀ (f : Nat) (acc : List T) (l : List UInt8) (s : PS), (catL F A f acc l s).2.bad = none → cntL (catL F A f acc l s).1 + (catL F A f acc l s).1.length + 2 * s.pos ≤ cntL acc + acc.length + 2 * (catL F A f acc l s).2.pos
  | 0, acc, l, s, h => by rw [catL]; exact Nat.le_refl _
  | f + 1, acc, l, s, h => by
    rw [catL] at h ⊢
    split at h
    · rename_i hg
      rw [if_pos hg]
      have h0 := before (catL_tame F hA f _) h
      have h1 := item_sm hA hs l s h0
      have h2 := catL_sm hA hs f _ l _ h
      rw [cntL_append, cntL, cntL, List.length_append, List.length_singleton] at h2
      omega
    · rename_i hg
      rw [if_neg hg]
      exact Nat.le_refl _
theorem cat_sm {F : Nat} {A : List UInt8 → PS → T × PS} (hA : Tame A) (hs : Sm A) : Sm (catP F A) := fun l s h => by
  unfold catP at h ⊢
  have h1 := catL_sm hA hs F [] l s h
  have h2 := tame_le (catL_tame F hA F []) h
  generalize (catL F A F [] l s) = X at *
  obtain ⟨L, x⟩ := X
  dsimp only at *
  match L with
  | [] =>
    unfold wrapC
    rw [cnt, cntL]
    omega
  | [t] =>
    show cnt t + _ ≤ _
    rw [cntL, cntL, cntL] at h1
    simp at h1
    omega
  | a :: b :: L =>
    unfold wrapC
    rw [cnt]
    rw [cntL] at h1 ⊢
    simp at h1
    rw [cntL] at h1 ⊢
    rw [show cntL [] = 0 from by rw [cntL]] at h1
    omega
theorem altL_sm {F : Nat} {A : List UInt8 → PS → T × PS} (hA : Tame A) (hs : Sm A) : ∀ (f : Nat) (acc : List T) (l : List UInt8) (s : PS), (altL F A f acc l s).2.bad = none → acc.length ≤ (altL F A f acc l s).1.length ∧ cntL (altL F A f acc l s).1 + (altL F A f acc l s).1.length + 2 * s.pos ≤ cntL acc + acc.length + 2 * (altL F A f acc l s).2.pos
  | 0, acc, l, s, h => by rw [altL]; exact ⟨Nat.le_refl _, Nat.le_refl _⟩
  | f + 1, acc, l, s, h => by
    rw [altL] at h ⊢
    split at h
    · rename_i hg
      rw [if_pos hg]
      have h0 := before (altL_tame F hA f _) h
      have h1 := cat_sm (F := F) hA hs l s.adv h0
      have h2 := altL_sm hA hs f _ l _ h
      rw [cntL_append, cntL, cntL, List.length_append, List.length_singleton] at h2
      have h3 : s.adv.pos = s.pos + 1 := rfl
      rw [h3] at h1
      omega
    · rename_i hg
      rw [if_neg hg]
      exact ⟨Nat.le_refl _, Nat.le_refl _⟩
theorem alt_sm {F : Nat} {A : List UInt8 → PS → T × PS} (hA : Tame A) (hs : Sm A) : Sm (altP F A) := fun l s h => by
  unfold altP at h ⊢
  dsimp only at h ⊢
  have h0 := before (altL_tame F hA F _) h
  have h1 := cat_sm (F := F) hA hs l s h0
  have h2 := altL_sm hA hs F [(catP F A l s).1] l _ h
  rw [cntL, cntL, List.length_singleton] at h2
  generalize (altL F A F [(catP F A l s).1] l (catP F A l s).2) = X at *
  obtain ⟨L, x⟩ := X
  dsimp only at *
  match L, h2 with
  | [], h2 => simp at h2
  | [t], h2 =>
    show cnt t + _ ≤ _
    rw [cntL, cntL] at h2
    simp at h2
    omega
  | a :: b :: L, h2 =>
    unfold wrapA
    rw [cnt]
    simp at h2
    omega
theorem all_sm {F : Nat} : ∀ d, Sm (altD F (d + 1))
  | 0 => alt_sm (altD_tame F 0) (fun l s h => by
    show cnt zeroT + 2 * s.pos ≤ 2 * s.pos + 1
    unfold zeroT
    rw [cnt, cntL]
    omega)
  | d + 1 => alt_sm (altD_tame F (d + 1)) (all_sm d)
theorem parse_cnt {F : Nat} {l : List UInt8} {t : T} (h : parse F l = .inr t) : cnt t ≤ 2 * l.length + 1 := by
  obtain ⟨h1, h2, h3⟩ := right_run h
  have := all_sm (F := F) 12 l s0 h2
  rw [show (12 : Nat) + 1 = 13 from rfl, h1, h3] at this
  simp only [s0] at this
  omega
end Go.Proofs.YtmeiboaagkoadaaGreatDoor.P08
/- Layer 8 (show), plain. Part 5: a file of two rules (P8.2 by way of layer 6): its names are unlike, and it is split into the two again. -/
namespace Go.Proofs.YtmeiboaagkoadaaGreatDoor.P08
open Go.Proofs.YtmeiboaagkoadaaGreatDoor.Ref06

theorem join_two {a b : LN} {s : List UInt8} (h : joinR [a, b] = some s) : a.name ≠ b.name ∧ ∃ A B : LN, splitR s = .inr [A, B] ∧ A.name = a.name ∧ A.text = a.text ∧ B.name = b.name ∧ B.text = b.text := by
  obtain ⟨out, h1, h2⟩ := split_join h
  unfold sameNT at h2
  refine ⟨fun e => ?_, ?_⟩
  · unfold joinR at h
    split at h
    · rename_i hh
      have := okTo_all hh.1 (i := 1) (r := b) (by simp) rfl
      unfold okAt findL at this
      simp [e] at this
    · cases h
  · have hl := congrArg List.length h2
    simp at hl
    match out, hl, h2 with
    | [A, B], _, h2 =>
      simp at h2
      exact ⟨A, B, h1, h2.1.1, h2.1.2, h2.2.1, h2.2.2⟩
end Go.Proofs.YtmeiboaagkoadaaGreatDoor.P08
