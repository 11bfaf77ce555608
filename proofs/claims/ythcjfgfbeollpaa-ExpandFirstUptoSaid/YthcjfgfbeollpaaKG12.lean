/- The code's reader (layer 7): digit, escape, byte, span; bytes256's plain and Escape. -/
import Derived.Test.YthcjfgfbeollpaaKG10
import Derived.Test.YthcjfgfbeollpaaKG08
import Derived.Test.YthcjfgfbeollpaaKG04
import Derived.Test.YthcjfgfbeollpaaKG09
namespace Go.Proofs.Ythcjfgfbeollpaa.P07
open Go.RowKit Go.Proofs.Ythcjfgfbeollpaa.Base
open Go.Proofs.Ythcjfgfbeollpaa.Sets (ST)

theorem sgn_idx (u : Nat) (h : u < 256) : decide (0 ≤ Lib.indexByte sgns (UInt8.ofNat u)) = ([32, 33, 34, 35, 37, 38, 39, 44, 47, 58, 59, 60, 61, 62, 64, 95, 96, 126] : List Nat).contains u := by
  have e : ∀ u, u < 256 → decide (0 ≤ Lib.indexByte sgns (UInt8.ofNat u)) = ([32, 33, 34, 35, 37, 38, 39, 44, 47, 58, 59, 60, 61, 62, 64, 95, 96, 126] : List Nat).contains u := by decide +kernel
  exact e u h
theorem hex_idx (u : Nat) (h : u < 256) : Lib.indexByte hexs (UInt8.ofNat u) = hexv u := by
  have e : ∀ u : Nat, u < 256 → Lib.indexByte hexs (UInt8.ofNat u) = hexv u := by decide +kernel
  exact e u h
theorem sg_idx (u : Nat) (h : u < 256) : decide (0 ≤ Lib.indexByte sgL (UInt8.ofNat u)) = inSg u := by
  have e : ∀ u : Nat, u < 256 → decide (0 ≤ Lib.indexByte sgL (UInt8.ofNat u)) = inSg u := by decide +kernel
  exact e u h
/-- strings.IndexByte. -/
theorem idx_any (L : List UInt8) (u : Nat) (w : World) : Calls Try.prog 137 #[str L, .int .u8 u] w fun e w' => e = .returned (.int .i64 (Lib.indexByte L (UInt8.ofNat u))) ∧ w = w' := by
  refine (Lay.strings_IndexByte _ (u : Int) w).mono ?_
  rintro e w' ⟨rfl, rfl⟩
  exact ⟨by rw [Int.toNat_natCast], rfl⟩

theorem cplain_low {b : Nat} (h : 97 ≤ b ∧ b ≤ 122 ∨ 65 ≤ b ∧ b ≤ 90 ∨ 48 ≤ b ∧ b ≤ 57) : true = plainN b := (plain_low h).symm
theorem cplain_no {b : Nat} (hb : b < 256) (h : ¬ (97 ≤ b ∧ b ≤ 122 ∨ 65 ≤ b ∧ b ≤ 90 ∨ 48 ≤ b ∧ b ≤ 57)) : decide (0 ≤ Lib.indexByte sgns (UInt8.ofNat b)) = plainN b := by
  unfold plainN
  rw [decide_eq_false h, sgn_idx b hb]
  rfl
set_option maxRecDepth 100000 in
theorem cplain_any (b : Nat) (hb : b < 256) (w : World) : Calls Try.prog 138 #[.int .u8 b] w fun e w' => e = .returned (.bool (plainN b)) ∧ w = w' := by
  go_enter Try.func138, Try.ntmps138
  go_wp2_with fail
  all_goals first
    | (go_ret; exact ⟨ret_bool (cplain_low (by omega)), rfl⟩)
    | (refine (idx_any sgns b w).mono ?_
       rintro e w' ⟨rfl, rfl⟩
       have hn := cplain_no (b := b) hb (by omega)
       have HN := Lib.hid hn
       clear hn
       generalize Lib.indexByte sgns (UInt8.ofNat b) = i at *
       go_wp2
       go_ret
       refine ⟨ret_bool ?_, rfl⟩
       first
         | exact HN.out
         | (rw [← HN.out, Bool.eq_iff_iff]; simp; omega))

theorem chex_run (k : Nat) (hk : k < 16) (w : World) : (Instr.index 9 (.string ⟨#[48, 49, 50, 51, 52, 53, 54, 55, 56, 57, 97, 98, 99, 100, 101, 102]⟩) (.int .u8 k)).run Try.prog w = .ok (.int .u8 (byteAt hexs k)) w := by
  have h : (0 : Int) ≤ (k : Int) ∧ (k : Int) < 16 := by omega
  have e : ∀ j, j < 16 → (ByteArray.mk #[48, 49, 50, 51, 52, 53, 54, 55, 56, 57, 97, 98, 99, 100, 101, 102])[j]? = some (UInt8.ofNat (byteAt hexs j)) ∧ (UInt8.ofNat (byteAt hexs j)).toNat = byteAt hexs j := by decide +kernel
  have e1 := (e k hk).1
  have e2 := (e k hk).2
  simp [Instr.index, run_underlying (P := Try.prog) Try.underlying9, asIntOf, h, e1, go_sem]
  have := byteAt_lt hexs k
  omega
theorem conv4 (x y : Nat) (hx : x < 256) (hy : y < 256) (w : World) : (convert 156 9 (.slice (some ⟨w.heap.size, 0, none⟩) 4 4)).run Try.prog (w.alloc (.cells #[.int .u8 92, .int .u8 120, .int .u8 x, .int .u8 y] 5)).drew = .ok (str [92, 120, UInt8.ofNat x, UInt8.ofNat y]) (w.alloc (.cells #[.int .u8 92, .int .u8 120, .int .u8 x, .int .u8 y] 5)).drew := by
  have h := At.new w #[.int .u8 92, .int .u8 120, .int .u8 x, .int .u8 y] 5
  have ex : ((UInt8.ofNat x).toNat : Int) = x := by rw [UInt8.toNat_ofNat']; omega
  have ey : ((UInt8.ofNat y).toNat : Int) = y := by rw [UInt8.toNat_ofNat']; omega
  refine run_convert_bytes_back (P := Try.prog) _ _ _ 5 ⟨w.heap.size, 0, none⟩ 4 [92, 120, UInt8.ofNat x, UInt8.ofNat y] Try.underlying156 Try.underlying5 Try.underlying9 (fun j hj => ?_)
  match j, hj with
  | 0, _ => exact h.cell rfl
  | 1, _ => exact h.cell rfl
  | 2, _ => exact h.cell (congrArg (fun z => some (Value.int .u8 z)) ex.symm)
  | 3, _ => exact h.cell (congrArg (fun z => some (Value.int .u8 z)) ey.symm)
set_option maxRecDepth 100000 in
theorem cesc_any (b : Nat) (hb : b < 256) (w : World) : Calls Try.prog 134 #[.int .u8 b] w fun e w' => e = .returned (str (escL b)) ∧ Keep (fun _ => False) w w' := by
  go_enter Try.func134, Try.ntmps134
  go_wp2_with fail
  refine (cplain_any b hb w).mono ?_
  rintro e w' ⟨rfl, rfl⟩
  cases hp : plainN b with
  | true =>
    have c := conv1 b hb w
    have he : str (escL b) = str [UInt8.ofNat b] := by rw [escL, if_pos hp]
    have HE := Lib.hid he
    clear he hp
    go_wp2
    go_ret
    exact ⟨by rw [HE.out]; rfl, (Keep.refl _ _).alloc _⟩
  | false =>
    have i1 : ∀ w, (Instr.index 9 (.string ⟨#[48, 49, 50, 51, 52, 53, 54, 55, 56, 57, 97, 98, 99, 100, 101, 102]⟩) (.int .u8 ((b : Int) / 16))).run Try.prog w = .ok (.int .u8 (byteAt hexs (b / 16))) w := chex_run (b / 16) (by omega)
    have i2 : ∀ w, (Instr.index 9 (.string ⟨#[48, 49, 50, 51, 52, 53, 54, 55, 56, 57, 97, 98, 99, 100, 101, 102]⟩) (.int .u8 ((b : Int) % 16))).run Try.prog w = .ok (.int .u8 (byteAt hexs (b % 16))) w := chex_run (b % 16) (by omega)
    have c := conv4 (byteAt hexs (b / 16)) (byteAt hexs (b % 16)) (byteAt_lt _ _) (byteAt_lt _ _) w
    have he : str (escL b) = str [92, 120, UInt8.ofNat (byteAt hexs (b / 16)), UInt8.ofNat (byteAt hexs (b % 16))] := by rw [escL, if_neg (by simp [hp])]
    have HE := Lib.hid he
    clear he hp
    go_wp2_with fail
    go_region
    go_wp2
    go_ret
    exact ⟨by rw [HE.out]; rfl, ((Keep.refl _ _).alloc _).drew⟩

/-- get, as it is met: the byte that stands there, or the text's end. -/
theorem rget_any (b : Nat) (l : List UInt8) (s : PS) (hb : s.bad = none) (hp : s.pos ≤ l.length) (hl : l.length ≤ 100000000) (w : World) (h : Rd w b l s) :
    Calls Try.prog 133 #[.pointer (some ⟨b, 0, none⟩)] w fun e w' =>
      (∃ u : Nat, nxt l s = u ∧ u < 256 ∧ s.pos < l.length ∧ e = .returned (.int .u8 u) ∧ Rd w' b l s.adv ∧ Keep (fun i => i = b) w w') ∨ (nxt l s = -1 ∧ s.pos = l.length ∧ e = Gave s.pos ∧ Keep (fun i => i = b) w w') := by
  rcases Nat.lt_or_ge s.pos l.length with hlt | hge
  · refine (get_some b l s hlt hl w h).mono ?_
    rintro e w1 ⟨rfl, h1, q1⟩
    exact .inl ⟨byteAt l s.pos, by unfold nxt; rw [if_pos ⟨hb, hlt⟩], byteAt_lt _ _, hlt, rfl, h1, q1⟩
  · refine (get_end b l s (by omega) w h).mono ?_
    rintro e w1 ⟨rfl, q1⟩
    exact .inr ⟨nxt_fin hge, by omega, rfl, upk b q1⟩

/-- A byte's value. -/
@[reducible] def VB (_ : World) (v : Value) (x : Int) : Prop := v = .int .u8 x

theorem bad_fail {s : PS} (hb : s.bad = none) (k : Nat) : (s.fail k).bad = some k := by unfold PS.fail; rw [if_pos hb]

set_option maxRecDepth 100000 in
set_option maxHeartbeats 1000000 in
theorem rdigit_any (b : Nat) (l : List UInt8) (s : PS) (hb : s.bad = none) (hp : s.pos ≤ l.length) (hl : l.length ≤ 100000000) (w : World) (h : Rd w b l s) :
    Calls Try.prog 136 #[.pointer (some ⟨b, 0, none⟩)] w (Outs w b l VB (digit l s)) := by
  obtain ⟨r, hr⟩ : ∃ r, digit l s = r := ⟨_, rfl⟩
  rw [hr]
  have HC := Lib.hid (And.intro (rget_any b l s hb hp hl w h) (And.intro hr hb))
  have hpos : s.pos ≤ 100000000 := by omega
  clear h hr hb hp
  go_enter Try.func136, Try.ntmps136
  go_wp2_with fail
  refine HC.out.1.mono ?_
  rintro e w1 (⟨u, hn, hu, hlt, rfl, h1, q1⟩ | ⟨hn, he, rfl, q1⟩)
  · have H1 := Lib.hid (And.intro h1 q1)
    have hi := hex_idx u hu
    have hid := idx_any hexs u w1
    rw [hi] at hid
    have HI := Lib.hid hid
    have hrr := HC.out.2.1
    unfold digit at hrr
    rw [hn] at hrr
    have c1 : w1.cell? ⟨b, 1, none⟩ = some (.int .i64 ((s.pos : Int) + 1)) := h1.cell (o := 1) rfl
    have hw : IntKind.i64.wrap ((s.pos : Int) + 1 - 1) = (s.pos : Int) := by rw [IntKind.wrap_i64]; omega
    clear h1 q1 hi hid
    have hrng : -1 ≤ hexv u ∧ hexv u ≤ 15 := by have := hexv_ge u; omega
    generalize hexv (u : Int) = x at *
    by_cases h0 : 0 ≤ x
    · rw [if_pos h0] at hrr
      have HR := Lib.hid hrr
      clear hrr
      have hx : IntKind.u8.wrap x = x := by rw [IntKind.wrap_u8]; omega
      go_wp2_with fail
      refine HI.out.mono ?_
      rintro e w2 ⟨rfl, rfl⟩
      go_wp2_with fail
      go_ret
      exact Outs.ok (by rw [← HR.out]; exact HC.out.2.2) (by rw [← HR.out]; rfl) (by rw [← HR.out]; exact H1.out.1) H1.out.2
    · rw [if_neg h0] at hrr
      have HR := Lib.hid hrr
      clear hrr
      go_wp2_with fail
      refine HI.out.mono ?_
      rintro e w2 ⟨rfl, rfl⟩
      go_wp2_with fail
      exact ⟨rfl, Outs.gave (x := s.pos) (by rw [← HR.out]; exact bad_fail HC.out.2.2 _) H1.out.2⟩
  · have hrr := HC.out.2.1
    unfold digit at hrr
    rw [hn, if_neg hexv_neg] at hrr
    have HR := Lib.hid (And.intro hrr q1)
    clear hrr q1
    clear he
    go_wp2_with fail
    exact ⟨rfl, Outs.gave (x := s.pos) (by rw [← HR.out.1]; exact bad_fail HC.out.2.2 _) HR.out.2⟩

/-- The answer, as it is met by a caller. -/
theorem Outs.split {α : Type} {w : World} {b : Nat} {l : List UInt8} {V : World → Value → α → Prop} {r : α × PS} {e : Ending} {w' : World} (h : Outs w b l V r e w') :
    (r.2.bad = none ∧ ∃ v, e = .returned v ∧ V w' v r.1 ∧ Rd w' b l r.2 ∧ Keep (fun i => i = b) w w') ∨ (∃ x : Nat, r.2.bad = some x ∧ e = Gave x ∧ Keep (fun i => i = b) w w') := h
theorem Tame.pos_le {α : Type} {f : List UInt8 → PS → α × PS} (hf : Tame f) {l : List UInt8} {s : PS} (hb : s.bad = none) (hp : s.pos ≤ l.length) (h : (f l s).2.bad = none) : (f l s).2.pos ≤ l.length := by
  rcases hf.inb l s hb hp with h1 | ⟨b, _, h1⟩
  · exact h1.2
  · rw [h1] at h
    cases h

/-- Two digits of sixteen as a byte. -/
theorem two_byte (x y : Int) (hx : 0 ≤ x ∧ x ≤ 15) (hy : 0 ≤ y ∧ y ≤ 15) : bits BinOp.or IntKind.u8 (x * 16) y = 16 * x + y := by
  have e : ∀ n : Nat, n < 16 → ∀ m : Nat, m < 16 → bits BinOp.or IntKind.u8 ((n : Int) * 16) (m : Int) = 16 * (n : Int) + (m : Int) := by decide +kernel
  have := e x.toNat (by omega) y.toNat (by omega)
  rw [show ((x.toNat : Nat) : Int) = x from by omega, show ((y.toNat : Nat) : Int) = y from by omega] at this
  exact this

set_option maxRecDepth 100000 in
set_option maxHeartbeats 2000000 in
theorem rescape_any (b : Nat) (l : List UInt8) (s : PS) (hb : s.bad = none) (hp : s.pos ≤ l.length) (hl : l.length ≤ 100000000) (w : World) (h : Rd w b l s) :
    Calls Try.prog 132 #[.pointer (some ⟨b, 0, none⟩)] w (Outs w b l VB (escP l s)) := by
  obtain ⟨r, hr⟩ : ∃ r, escP l s = r := ⟨_, rfl⟩
  rw [hr]
  have HC := Lib.hid (And.intro (rget_any b l s hb hp hl w h) (And.intro hr hb))
  have hpos : s.pos ≤ 100000000 := by omega
  clear h hr hb hp
  go_enter Try.func132, Try.ntmps132
  go_wp2_with fail
  refine HC.out.1.mono ?_
  rintro e w1 (⟨u, hn, hu, hlt, rfl, h1, q1⟩ | ⟨hn, he, rfl, q1⟩)
  · have H1 := Lib.hid (And.intro h1 q1)
    have hrr := HC.out.2.1
    unfold escP escB at hrr
    rw [hn] at hrr
    by_cases h120 : u = 120
    · rw [if_pos (by omega)] at hrr
      have hb1 : s.adv.bad = none := HC.out.2.2
      have hp1 : s.adv.pos ≤ l.length := hlt
      have hd1 := rdigit_any b l s.adv hb1 hp1 hl w1 h1
      have hp2 := fun h => digit_sharp.toTame.pos_le hb1 hp1 h
      have hd2 := fun h0 h1 W h2 => rdigit_any b l (digit l s.adv).2 h0 h1 hl W h2
      have r1 := digit_range l s.adv
      have r2 := digit_range l (digit l s.adv).2
      have hbd := digit_sharp.toTame.bad l (digit l s.adv).2
      unfold two at hrr
      obtain ⟨⟨x, s1⟩, hx⟩ : ∃ r, digit l s.adv = r := ⟨_, rfl⟩
      rw [hx] at hd1 hp2 hd2 r1 r2 hbd hrr
      dsimp only at hd1 hp2 hd2 r1 r2 hbd hrr
      obtain ⟨⟨y, s2⟩, hy⟩ : ∃ r, digit l s1 = r := ⟨_, rfl⟩
      rw [hy] at hd2 r2 hbd hrr
      dsimp only at hd2 r2 hbd hrr
      have hbits := two_byte x y r1 r2
      have HD := Lib.hid (And.intro hd1 (And.intro hd2 (And.intro hp2 (And.intro hbd hrr))))
      clear h1 q1 hn hlt hrr hx hy hd1 hd2 hp2 hbd hb1 hp1
      subst h120
      go_wp2_with fail
      refine HD.out.1.mono ?_
      intro e w2 hO
      rcases hO.split with ⟨hb2, v, rfl, hv, h2, q2⟩ | ⟨x, hb2, rfl, q2⟩
      · unfold VB at hv
        subst hv
        have H2 := Lib.hid (And.intro hb2 (And.intro h2 (H1.out.2.trans q2)))
        clear hb2 h2 q2 hO
        go_wp2_with fail
        refine (HD.out.2.1 H2.out.1 (HD.out.2.2.1 H2.out.1) w2 H2.out.2.1).mono ?_
        intro e w3 hO
        rcases hO.split with ⟨hb3, v, rfl, hv, h3, q3⟩ | ⟨x', hb3, rfl, q3⟩
        · unfold VB at hv
          subst hv
          have H3 := Lib.hid (And.intro hb3 (And.intro h3 (H2.out.2.2.trans q3)))
          clear hb3 h3 q3 hO
          go_wp2_with fail
          go_ret
          exact Outs.ok (by rw [← HD.out.2.2.2.2]; exact H3.out.1) (by rw [← HD.out.2.2.2.2]; rfl) (by rw [← HD.out.2.2.2.2]; exact H3.out.2.1) H3.out.2.2
        · have H3 := Lib.hid (And.intro hb3 (H2.out.2.2.trans q3))
          clear hb3 q3 hO
          go_wp2_with fail
          exact ⟨rfl, Outs.gave (by rw [← HD.out.2.2.2.2]; exact H3.out.1) H3.out.2⟩
      · have H2 := Lib.hid (And.intro hb2 (H1.out.2.trans q2))
        clear hb2 q2 hO
        go_wp2_with fail
        exact ⟨rfl, Outs.gave (by rw [← HD.out.2.2.2.2]; exact HD.out.2.2.2.1 _ H2.out.1) H2.out.2⟩
    · rw [if_neg (by omega)] at hrr
      by_cases h110 : u = 110
      · rw [if_pos (by omega)] at hrr
        have HR := Lib.hid hrr
        clear hrr hn h1 q1
        subst h110
        go_wp2_with fail
        go_ret
        exact Outs.ok (by rw [← HR.out]; exact HC.out.2.2) (by rw [← HR.out]; rfl) (by rw [← HR.out]; exact H1.out.1) H1.out.2
      · rw [if_neg (by omega)] at hrr
        by_cases h116 : u = 116
        · rw [if_pos (by omega)] at hrr
          have HR := Lib.hid hrr
          clear hrr hn h1 q1
          subst h116
          go_wp2_with fail
          go_ret
          exact Outs.ok (by rw [← HR.out]; exact HC.out.2.2) (by rw [← HR.out]; rfl) (by rw [← HR.out]; exact H1.out.1) H1.out.2
        · rw [if_neg (by omega)] at hrr
          have e1 : ((u : Int) == 120) = false := by simp; omega
          have e2 : ((u : Int) == 110) = false := by simp; omega
          have e3 : ((u : Int) == 116) = false := by simp; omega
          have hsg := sg_idx u hu
          have HI := Lib.hid (idx_any sgL u w1)
          have c1 : w1.cell? ⟨b, 1, none⟩ = some (.int .i64 ((s.pos : Int) + 1)) := h1.cell (o := 1) rfl
          have hw : IntKind.i64.wrap ((s.pos : Int) + 1 - 1) = (s.pos : Int) := by rw [IntKind.wrap_i64]; omega
          clear hn h1 q1
          by_cases hin : inSg u = true
          · rw [if_pos hin] at hrr
            rw [hin] at hsg
            have h0 := of_decide_eq_true hsg
            have HR := Lib.hid hrr
            clear hrr hsg hin
            generalize Lib.indexByte sgL (UInt8.ofNat u) = i at *
            go_wp2_with fail
            refine HI.out.mono ?_
            rintro e w2 ⟨rfl, rfl⟩
            go_wp2_with fail
            go_ret
            exact Outs.ok (by rw [← HR.out]; exact HC.out.2.2) (by rw [← HR.out]; rfl) (by rw [← HR.out]; exact H1.out.1) H1.out.2
          · rw [if_neg hin] at hrr
            rw [Bool.not_eq_true] at hin
            rw [hin] at hsg
            have h0 := of_decide_eq_false hsg
            have HR := Lib.hid hrr
            clear hrr hsg hin
            generalize Lib.indexByte sgL (UInt8.ofNat u) = i at *
            go_wp2_with fail
            refine HI.out.mono ?_
            rintro e w2 ⟨rfl, rfl⟩
            go_wp2_with fail
            exact ⟨rfl, Outs.gave (x := s.pos) (by rw [← HR.out]; exact bad_fail HC.out.2.2 _) H1.out.2⟩
  · have hrr := HC.out.2.1
    unfold escP escB at hrr
    rw [hn, if_neg (by decide), if_neg (by decide), if_neg (by decide), if_neg (by decide)] at hrr
    have HR := Lib.hid (And.intro hrr q1)
    clear hrr q1 he
    go_wp2_with fail
    exact ⟨rfl, Outs.gave (x := s.pos) (by rw [← HR.out.1]; exact bad_fail HC.out.2.2 _) HR.out.2⟩

set_option maxRecDepth 100000 in
set_option maxHeartbeats 2000000 in
theorem rbyte_any (b : Nat) (l : List UInt8) (s : PS) (hb : s.bad = none) (hp : s.pos ≤ l.length) (hl : l.length ≤ 100000000) (w : World) (h : Rd w b l s) :
    Calls Try.prog 124 #[.pointer (some ⟨b, 0, none⟩)] w (Outs w b l VB (one l s)) := by
  have hrr : one l s = oneB (nxt l s) l s := rfl
  obtain ⟨r, hr⟩ : ∃ r, one l s = r := ⟨_, rfl⟩
  rw [hr] at hrr ⊢
  by_cases h92 : nxt l s = 92
  · have hlt := nxt_lt (l := l) (s := s) (by omega)
    have ht := take_yes b 92 l s h92 hl w h
    have he := fun W h1 => rescape_any b l s.adv hb (show s.pos + 1 ≤ l.length by omega) hl W h1
    unfold oneB at hrr
    rw [h92, if_neg (by decide), if_pos rfl] at hrr
    rw [← hrr] at he
    have HC := Lib.hid (And.intro ht he)
    clear h hr hb hp hrr h92 hlt ht he
    go_enter Try.func124, Try.ntmps124
    go_wp2_with fail
    refine HC.out.1.mono ?_
    rintro e w1 ⟨rfl, h1, q1⟩
    have H1 := Lib.hid (And.intro h1 q1)
    clear h1 q1
    go_wp2_with fail
    refine (HC.out.2 w1 H1.out.1).mono ?_
    intro e w2 hO
    rcases hO.split with ⟨hb2, v, rfl, hv, h2, q2⟩ | ⟨x, hb2, rfl, q2⟩
    · have H2 := Lib.hid (And.intro hb2 (And.intro h2 (And.intro hv (H1.out.2.trans q2))))
      clear hb2 h2 q2 hO hv
      go_wp2_with fail
      go_ret
      exact Outs.ok H2.out.1 H2.out.2.2.1 H2.out.2.1 H2.out.2.2.2
    · have H2 := Lib.hid (And.intro hb2 (H1.out.2.trans q2))
      clear hb2 q2 hO
      go_wp2_with fail
      exact ⟨rfl, Outs.gave H2.out.1 H2.out.2⟩
  · have ht := take_no b 92 l s hb h92 w h
    have hg := fun W h1 => rget_any b l s hb hp hl W h1
    unfold oneB at hrr
    rw [if_neg h92] at hrr
    have HC := Lib.hid (And.intro ht (And.intro hg (And.intro hrr hb)))
    have hpos : s.pos ≤ 100000000 := by omega
    clear h hr hb hp hrr h92 ht hg
    go_enter Try.func124, Try.ntmps124
    go_wp2_with fail
    refine HC.out.1.mono ?_
    rintro e w1 ⟨rfl, h1, q1⟩
    have H1 := Lib.hid (And.intro h1 q1)
    clear h1 q1
    go_wp2_with fail
    refine (HC.out.2.1 w1 H1.out.1).mono ?_
    rintro e w2 (⟨u, hn, hu, hlt, rfl, h2, q2⟩ | ⟨hn, he, rfl, q2⟩)
    · have hE := fun W => cesc_any u hu W
      have hrr := HC.out.2.2.1
      rw [hn, plainI_nat] at hrr
      have hsz := size_str (escL u)
      have hln : (escL u).length = if plainN u = true then 1 else 4 := by
        unfold escL
        split <;> rfl
      obtain ⟨B, hB⟩ : ∃ B : ByteArray, (⟨(escL u).toArray⟩ : ByteArray) = B := ⟨_, rfl⟩
      unfold str at hE
      rw [hB] at hE hsz
      rw [hln] at hsz
      clear hB hln
      have c1 : ∀ W, Keep (fun _ => False) w2 W → W.cell? ⟨b, 1, none⟩ = some (.int .i64 ((s.pos : Int) + 1)) := fun W q => (h2.keep q (fun h => h)).cell (o := 1) rfl
      have hw : IntKind.i64.wrap ((s.pos : Int) + 1 - 1) = (s.pos : Int) := by rw [IntKind.wrap_i64]; omega
      have H2 := Lib.hid (And.intro h2 (And.intro (H1.out.2.trans q2) (And.intro hE c1)))
      clear h2 q2 hE c1 hn
      by_cases hpl : plainN u = true
      · rw [if_pos hpl] at hrr hsz
        have HR := Lib.hid hrr
        clear hrr hpl
        go_wp2_with fail
        refine (H2.out.2.2.1 w2).mono ?_
        rintro e w3 ⟨rfl, q3⟩
        have H3 := Lib.hid q3
        clear q3
        go_wp2_with fail
        go_ret
        exact Outs.ok (by rw [HR.out]; exact HC.out.2.2.2) (by rw [HR.out]; rfl) (by rw [HR.out]; exact H2.out.1.keep H3.out (fun h => h)) (H2.out.2.1.trans (upk b H3.out))
      · rw [if_neg hpl] at hrr hsz
        have HR := Lib.hid hrr
        clear hrr hpl
        go_wp2_with fail
        refine (H2.out.2.2.1 w2).mono ?_
        rintro e w3 ⟨rfl, q3⟩
        have c3 := H2.out.2.2.2 w3 q3
        have H3 := Lib.hid q3
        clear q3
        go_wp2_with fail
        exact ⟨rfl, Outs.gave (x := s.pos) (by rw [HR.out]; exact bad_fail HC.out.2.2.2 _) (H2.out.2.1.trans (upk b H3.out))⟩
    · have hrr := HC.out.2.2.1
      rw [hn, if_neg (by decide)] at hrr
      have HR := Lib.hid (And.intro hrr (H1.out.2.trans q2))
      clear hrr q2 he hn
      go_wp2_with fail
      exact ⟨rfl, Outs.gave (x := s.pos) (by rw [HR.out.1]; exact bad_fail HC.out.2.2.2 _) HR.out.2⟩
end Go.Proofs.Ythcjfgfbeollpaa.P07
