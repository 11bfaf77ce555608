/- ShowNames: the walk. -/
import Derived.Test.YtmeiboaagkoadaaGreatDoorKK46
import Derived.Test.YtmeiboaagkoadaaGreatDoorKK43
import Derived.Test.YtmeiboaagkoadaaGreatDoorKK35
namespace Go.Proofs.YtmeiboaagkoadaaGreatDoor.P08
open Go.RowKit Go.Proofs.YtmeiboaagkoadaaGreatDoor.Base Go.Proofs.YtmeiboaagkoadaaGreatDoor.P07
open Go.Proofs.YtmeiboaagkoadaaGreatDoor.Sets (ST)
open Go.Proofs.YtmeiboaagkoadaaGreatDoor.Bytes (Tab)
open Go.Proofs.YtmeiboaagkoadaaGreatDoor.Ref06 (LN splitR joinR)

/-- Two rules of one expression, side by side. -/
@[reducible] def twoCells (B1 B2 : ByteArray) (t : T) (a : Option Addr) (c : Nat) : Array Value := #[.string B1, .int .i64 t.kind, .int .u64 t.set.x0, .int .u64 t.set.x1, .int .u64 t.set.x2, .int .u64 t.set.x3, .int .i64 t.mn, .int .i64 t.mx, .slice a t.subs.length c, .string B2, .int .i64 t.kind, .int .u64 t.set.x0, .int .u64 t.set.x1, .int .u64 t.set.x2, .int .u64 t.set.x3, .int .i64 t.mn, .int .i64 t.mx, .slice a t.subs.length c]
theorem rs_two {W : World} {l m : List UInt8} {B1 B2 : ByteArray} (h1 : Bytes.str l = .string B1) (h2 : Bytes.str m = .string B2) {t : T} {a : Option Addr} {c : Nat} (hc : t.subs.length ≤ c) (hL : Lie W (fun _ => True) a t.subs) :
    RS (W.alloc (.cells (twoCells B1 B2 t a c) 38)) (fun _ => True) (some ⟨W.heap.size, 0, none⟩) [⟨l, t⟩, ⟨m, t⟩] := by
  have q := (Keep.refl (fun _ => False) W).alloc (.cells (twoCells B1 B2 t a c) 38)
  have h := At.new W (twoCells B1 B2 t a c) 38
  refine .inr ⟨W.heap.size, 0, fun _ => a, fun _ => c, rfl, h.lt, trivial, fun i x hx => ?_⟩
  match i, hx with
  | 0, hx =>
    simp at hx
    subst hx
    refine ⟨hc, hL.keepF q, fun j v hv => ?_⟩
    unfold rcells at hv
    dsimp only at hv
    rw [h1] at hv
    have hj : j < 9 := (Array.getElem?_eq_some_iff.1 hv).1
    have e : (0 + 0 * 9 + j) = j := by omega
    rw [e]
    refine h.cell ?_
    rw [← hv]
    match j, hj with
    | 0, _ | 1, _ | 2, _ | 3, _ | 4, _ | 5, _ | 6, _ | 7, _ | 8, _ => rfl
    | j + 9, hj => omega
  | 1, hx =>
    simp at hx
    subst hx
    refine ⟨hc, hL.keepF q, fun j v hv => ?_⟩
    unfold rcells at hv
    dsimp only at hv
    rw [h2] at hv
    have hj : j < 9 := (Array.getElem?_eq_some_iff.1 hv).1
    have e : (0 + 1 * 9 + j) = 9 + j := by omega
    rw [e]
    refine h.cell ?_
    rw [← hv]
    match j, hj with
    | 0, _ | 1, _ | 2, _ | 3, _ | 4, _ | 5, _ | 6, _ | 7, _ | 8, _ => rfl
    | j + 9, hj => omega
  | i + 2, hx => simp at hx

/-- What two rules of one right expression make. -/
theorem two_file {l m s : List UInt8} {t : T} (hR : RT 12 t) (hc : cnt t ≤ 200) (h : fileR [⟨l, t⟩, ⟨m, t⟩] = some s) : l ≠ m ∧ rulesR 500000 s = .inr [⟨l, t⟩, ⟨m, t⟩] := by
  have hst := RT_sok t 12 hR
  have hlen := txt_len t hst
  unfold fileR at h
  rw [if_pos (by simp [(rightB_iff hst).2 hR])] at h
  obtain ⟨hne, A, B, hsp, ha1, ha2, hb1, hb2⟩ := join_two (a := ⟨l, txt t, 0⟩) (b := ⟨m, txt t, 0⟩) h
  refine ⟨hne, ?_⟩
  have hp := text_read (F := 500000) hR (by omega)
  have ea : parse 500000 A.text = .inr t := by rw [ha2]; exact hp
  have eb : parse 500000 B.text = .inr t := by rw [hb2]; exact hp
  unfold rulesR
  rw [hsp]
  show rulesL 500000 [A, B] [] = _
  rw [rulesL, ea]
  show rulesL 500000 [B] ([] ++ [⟨A.name, t⟩]) = _
  rw [rulesL, eb]
  show rulesL 500000 [] ([] ++ [⟨A.name, t⟩] ++ [⟨B.name, t⟩]) = _
  rw [rulesL, ha1, hb1]
  rfl
theorem rules_none : rulesR 500000 [] = .inl 0 := by
  unfold rulesR
  rw [show splitR [] = .inl 0 from by decide +kernel]
  rfl

set_option maxRecDepth 100000 in
set_option maxHeartbeats 16000000 in
theorem show_names (t : T) (a : Option Addr) (c : Nat) (l m : List UInt8) (hl : l.length ≤ 140737488355328) (hm : m.length ≤ 140737488355328) (w : World) (hT : Tab w) (hta : Lie w (fun _ => True) a t.subs) (hc : t.subs.length ≤ c) (ht : cnt t ≤ 1000000000) (hst : SOk t) :
    Calls Tryz.prog 4 #[nodeV t a c, Bytes.str l, Bytes.str m] w fun e w' => e = .returned (.bool true) ∧ Keep (fun _ => False) w w' := by
  have hs1 : (⟨l.toArray⟩ : ByteArray).size = l.length := by simp [ByteArray.size]
  have hs2 : (⟨m.toArray⟩ : ByteArray).size = m.length := by simp [ByteArray.size]
  have hstr1 : Bytes.str l = .string ⟨l.toArray⟩ := rfl
  have hstr2 : Bytes.str m = .string ⟨m.toArray⟩ := rfl
  have hcmp : ((ByteArray.mk l.toArray).toList == (ByteArray.mk m.toArray).toList) = decide (l = m) := by
    rw [Bool.eq_iff_iff]
    simp
  rw [hstr1, hstr2]
  obtain ⟨B1, hB1⟩ : ∃ B : ByteArray, (⟨l.toArray⟩ : ByteArray) = B := ⟨_, rfl⟩
  obtain ⟨B2, hB2⟩ : ∃ B : ByteArray, (⟨m.toArray⟩ : ByteArray) = B := ⟨_, rfl⟩
  rw [hB1] at hs1 hstr1 hcmp ⊢
  rw [hB2] at hs2 hstr2 hcmp ⊢
  have hw : IntKind.i64.wrap ((l.length : Int) + m.length) = (l.length : Int) + m.length := by rw [IntKind.wrap_i64]; omega
  have q := (Keep.refl (fun _ => False) w).alloc (.cells (ncells t a c) 27)
  have H0 := Lib.hid (And.intro q (Nd.new hc hta))
  have HCT := Lib.hid (And.intro ht (And.intro hT (And.intro hst (And.intro hstr1 (And.intro hstr2 hcmp)))))
  clear q hta hc ht hT hst hB1 hB2 hstr1 hstr2 hcmp
  go_enter Tryz.func4, Tryz.ntmps4
  go_upto_region 1 with fail
  generalize (w.alloc (.cells (ncells t a c) 27)) = W0 at *
  generalize w.heap.size = n0 at *
  go_wp2_with fail
  refine (awake_true W0 (HCT.out.2.1.keep H0.out.1)).mono ?_
  rintro e w1 ⟨rfl, q1⟩
  have H1 := Lib.hid (And.intro (H0.out.1.trans q1) (H0.out.2.keep q1))
  clear q1
  obtain ⟨x0, x1, x2, x3, x4, x5, x6, x7⟩ := (cells8 H1.out.2.cell).1
  go_wp2_with fail
  refine (few_any t HCT.out.1 a c w1 H1.out.2.lie).mono ?_
  rintro e w2 ⟨rfl, q2⟩
  have H2 := Lib.hid (And.intro (H1.out.1.trans q2) (H1.out.2.keep q2))
  clear q2 x0 x1 x2 x3 x4 x5 x6 x7
  by_cases h1 : sz t ≤ 200
  case neg =>
    have g1 : decide (sz t ≤ 200) = false := decide_eq_false h1
    rw [g1]
    clear g1 h1
    go_wp2_with fail
    refine (awake_true w2 (HCT.out.2.1.keep H2.out.1)).mono ?_
    rintro e w3 ⟨rfl, q3⟩
    have Q3 := Lib.hid (H2.out.1.trans q3)
    clear q3
    go_wp2_with fail
    go_ret
    exact ⟨rfl, Q3.out⟩
  have g1 : decide (sz t ≤ 200) = true := decide_eq_true h1
  rw [g1]
  have HF1 := Lib.hid (few_cnt h1)
  clear g1 h1
  obtain ⟨x0, x1, x2, x3, x4, x5, x6, x7⟩ := (cells8 H2.out.2.cell).1
  go_wp2_with fail
  refine (fright_any t HCT.out.1 a c w2 H2.out.2.lie).mono ?_
  rintro e w3 ⟨rfl, q3⟩
  have H3 := Lib.hid (And.intro (H2.out.1.trans q3) (H2.out.2.keep q3))
  clear q3 x0 x1 x2 x3 x4 x5 x6 x7
  cases h3 : rightB t with
  | false =>
    clear h3
    go_wp2_with fail
    refine (awake_true w3 (HCT.out.2.1.keep H3.out.1)).mono ?_
    rintro e w4 ⟨rfl, q4⟩
    have Q4 := Lib.hid (H3.out.1.trans q4)
    clear q4
    go_wp2_with fail
    go_ret
    exact ⟨rfl, Q4.out⟩
  | true =>
    have HR := Lib.hid ((rightB_iff HCT.out.2.2.1).1 h3)
    clear h3
    by_cases hlm : 100 < l.length + m.length
    · have hlm' : (100 : Int) < (l.length : Int) + m.length := by omega
      go_wp2_with fail
      refine (awake_true w3 (HCT.out.2.1.keep H3.out.1)).mono ?_
      rintro e w4 ⟨rfl, q4⟩
      have Q4 := Lib.hid (H3.out.1.trans q4)
      clear q4
      go_wp2_with fail
      go_ret
      exact ⟨rfl, Q4.out⟩
    have hlm' : ¬ (100 : Int) < (l.length : Int) + m.length := by omega
    obtain ⟨x0, x1, x2, x3, x4, x5, x6, x7⟩ := (cells8 H3.out.2.cell).1
    go_upto_region 4 with fail
    have hrs := rs_two (W := w3) HCT.out.2.2.2.1 HCT.out.2.2.2.2.1 H3.out.2.le H3.out.2.lie
    have q4 := (Keep.refl (fun _ => False) w3).alloc (.cells (twoCells B1 B2 t a c) 38)
    have H4 := Lib.hid (And.intro hrs (And.intro (H3.out.1.trans q4) (H3.out.2.keep q4)))
    clear hrs q4 x0 x1 x2 x3 x4 x5 x6 x7
    generalize (w3.alloc (.cells (twoCells B1 B2 t a c) 38)) = W4 at *
    generalize w3.heap.size = n4 at *
    have hb : ∀ x ∈ ([⟨l, t⟩, ⟨m, t⟩] : List RU), x.nm.length ≤ 4000000 ∧ SOk x.re ∧ cnt x.re ≤ 1000 := fun x hx => by
      have h1 := HF1.out
      rcases List.mem_cons.1 hx with rfl | hx
      · exact ⟨by show l.length ≤ _; omega, HCT.out.2.2.1, by show cnt t ≤ _; omega⟩
      · rw [List.mem_singleton.1 hx]
        exact ⟨by show m.length ≤ _; omega, HCT.out.2.2.1, by show cnt t ≤ _; omega⟩
    have hcf := fun W h h2 => cfile_any [⟨l, t⟩, ⟨m, t⟩] (some ⟨n4, 0, none⟩) 2 (by show (2 : Nat) ≤ 30; decide) hb W h h2
    have hff := fun W h => ffile_any [⟨l, t⟩, ⟨m, t⟩] (some ⟨n4, 0, none⟩) 2 (by show (2 : Nat) ≤ 30; decide) hb W h
    have htw : ∀ s, fileR [⟨l, t⟩, ⟨m, t⟩] = some s → _ := fun s h => two_file HR.out HF1.out h
    obtain ⟨R, hR⟩ : ∃ R, fileR [⟨l, t⟩, ⟨m, t⟩] = R := ⟨_, rfl⟩
    rw [hR] at hcf hff htw
    have HC := Lib.hid (And.intro hcf (And.intro hff htw))
    clear hcf hff htw hR hb
    go_wp2_with fail
    refine (HC.out.1 W4 H4.out.1 (HCT.out.2.1.keep H4.out.2.1)).mono ?_
    rintro e w5 ⟨rfl, q5⟩
    have H5 := Lib.hid (And.intro (H4.out.1.keepF q5) (And.intro (H4.out.2.1.trans q5) (H4.out.2.2.keep q5)))
    clear q5
    cases R with
    | none =>
      rw [show fileV none = .tuple #[Bytes.str [], .int .i64 1] from rfl]
      go_wp2_with fail
      refine (HC.out.2.1 w5 H5.out.1).mono ?_
      rintro e w6 ⟨rfl, q6⟩
      rw [show ffileV none = .tuple #[Bytes.str [], .bool false] from rfl]
      have H6 := Lib.hid (And.intro (H5.out.2.1.trans q6) (H5.out.2.2.keep q6))
      clear q6
      have hbb : ((B1.toList == B2.toList) && false) = false := by simp
      cases hb12 : (B1.toList == B2.toList)
      all_goals
        go_wp2_with fail
        refine (crules_any 500000 (by decide) [] (by decide) w6).mono ?_
        rintro e w7 ⟨hV, q7⟩
        rw [rules_none] at hV
        have hV' : e = .returned (.tuple #[.slice none 0 0, .int .i64 0, .int .i64 6]) := hV
        subst hV'
        have H7 := Lib.hid (H6.out.1.trans q7)
        clear q7 hV
        go_wp2_with fail
        refine wp_region_noPanic ?_
        refine wp_region_held_drew (S := (fun w' => Keep (fun _ => False) w7 w')) (by kernel_rfl) ?_ (fun hHeld => ?_)
        · exact (Keep.refl _ _).drew
        refine wpAnyH_take (i := 0) (oi := { dst := some 76, op := Go.Op.move (Go.Operand.tmp 11), type := 4, pos := "law.go:124", after := #[], guard := none }) (v := ?_) rfl (by kernel_rfl) (by kernel_rfl) (by kernel_rfl) (fun _ _ _ h => h) (Or.inl ⟨by rfl, ?_⟩) (by assumption) ?_
        rotate_left 1
        · (intro w hSw; (try dsimp only at hSw); go_simp; first | done | with_reducible rfl)
        try simp only [Act.put, List.setIfInBounds_toArray, List.set_cons_zero, List.set_cons_succ]
        refine wpAnyH_take (i := 1) (oi := { dst := some 77, op := Go.Op.unOp Go.UnOp.not 4 (Go.Operand.tmp 76), type := 4, pos := "law.go:124", after := #[{ on := 0, ground := Go.Ground.data }], guard := none }) (v := ?_) rfl (by kernel_rfl) (by kernel_rfl) (by kernel_rfl) (fun _ _ _ h => h) (Or.inl ⟨by rfl, ?_⟩) (by assumption) ?_
        rotate_left 1
        · (intro w hSw; (try dsimp only at hSw); go_simp; first | done | with_reducible rfl)
        try simp only [Act.put, List.setIfInBounds_toArray, List.set_cons_zero, List.set_cons_succ]
        refine wpAnyH_take (i := 2) (oi := { dst := some 78, op := Go.Op.move (Go.Operand.tmp 77), type := 4, pos := "law.go:124", after := #[{ on := 1, ground := Go.Ground.data }], guard := none }) (v := ?_) rfl (by kernel_rfl) (by kernel_rfl) (by kernel_rfl) (fun _ _ _ h => h) (Or.inl ⟨by rfl, ?_⟩) (by assumption) ?_
        rotate_left 1
        · (intro w hSw; (try dsimp only at hSw); go_simp; first | done | with_reducible rfl)
        try simp only [Act.put, List.setIfInBounds_toArray, List.set_cons_zero, List.set_cons_succ]
        refine wpAnyH_take (i := 3) (oi := { dst := some 79, op := Go.Op.move (Go.Operand.tmp 14), type := 30, pos := "law.go:124", after := #[{ on := 2, ground := Go.Ground.guard }], guard := some (2, false) }) (v := undef) rfl (by kernel_rfl) (by kernel_rfl) (by kernel_rfl) (fun _ _ _ h => h) (Or.inr ⟨by rfl, rfl⟩) (by assumption) ?_
        try simp only [Act.put, List.setIfInBounds_toArray, List.set_cons_zero, List.set_cons_succ]
        refine wpAnyH_take (i := 4) (oi := { dst := some 80, op := Go.Op.binOp Go.BinOp.eql 30 (Go.Operand.tmp 79) (Go.Operand.const (Go.Value.int Go.IntKind.i64 0)) 30, type := 4, pos := "law.go:124", after := #[{ on := 3, ground := Go.Ground.data }, { on := 2, ground := Go.Ground.guard }], guard := some (2, false) }) (v := undef) rfl (by kernel_rfl) (by kernel_rfl) (by kernel_rfl) (fun _ _ _ h => h) (Or.inr ⟨by rfl, rfl⟩) (by assumption) ?_
        try simp only [Act.put, List.setIfInBounds_toArray, List.set_cons_zero, List.set_cons_succ]
        refine wpAnyH_take (i := 5) (oi := { dst := some 81, op := Go.Op.move (Go.Operand.tmp 80), type := 4, pos := "law.go:124", after := #[{ on := 4, ground := Go.Ground.data }, { on := 2, ground := Go.Ground.chain }, { on := 2, ground := Go.Ground.guard }], guard := some (2, false) }) (v := undef) rfl (by kernel_rfl) (by kernel_rfl) (by kernel_rfl) (fun _ _ _ h => h) (Or.inr ⟨by rfl, rfl⟩) (by assumption) ?_
        try simp only [Act.put, List.setIfInBounds_toArray, List.set_cons_zero, List.set_cons_succ]
        refine wpAnyH_take (i := 6) (oi := { dst := some 82, op := Go.Op.move (Go.Operand.tmp 12), type := 39, pos := "law.go:124", after := #[{ on := 5, ground := Go.Ground.guard }], guard := some (5, true) }) (v := undef) rfl (by kernel_rfl) (by kernel_rfl) (by kernel_rfl) (fun _ _ _ h => h) (Or.inr ⟨by rfl, rfl⟩) (by assumption) ?_
        try simp only [Act.put, List.setIfInBounds_toArray, List.set_cons_zero, List.set_cons_succ]
        refine wpAnyH_take (i := 7) (oi := { dst := some 83, op := Go.Op.call { callee := Go.Callee.builtin Go.Builtin.len, args := #[Go.Operand.tmp 82], argTypes := #[39] }, type := 3, pos := "law.go:124", after := #[{ on := 6, ground := Go.Ground.data }, { on := 5, ground := Go.Ground.guard }], guard := some (5, true) }) (v := undef) rfl (by kernel_rfl) (by kernel_rfl) (by kernel_rfl) (fun _ _ _ h => h) (Or.inr ⟨by rfl, rfl⟩) (by assumption) ?_
        try simp only [Act.put, List.setIfInBounds_toArray, List.set_cons_zero, List.set_cons_succ]
        refine wpAnyH_take (i := 8) (oi := { dst := some 84, op := Go.Op.binOp Go.BinOp.eql 3 (Go.Operand.tmp 83) (Go.Operand.const (Go.Value.int Go.IntKind.i64 2)) 3, type := 4, pos := "law.go:124", after := #[{ on := 7, ground := Go.Ground.data }, { on := 5, ground := Go.Ground.guard }], guard := some (5, true) }) (v := undef) rfl (by kernel_rfl) (by kernel_rfl) (by kernel_rfl) (fun _ _ _ h => h) (Or.inr ⟨by rfl, rfl⟩) (by assumption) ?_
        try simp only [Act.put, List.setIfInBounds_toArray, List.set_cons_zero, List.set_cons_succ]
        refine wpAnyH_take (i := 9) (oi := { dst := some 85, op := Go.Op.pick (Go.Operand.tmp 81) (Go.Operand.tmp 84) (Go.Operand.const (Go.Value.bool false)), type := 4, pos := "law.go:124", after := #[{ on := 5, ground := Go.Ground.data }, { on := 8, ground := Go.Ground.data }, { on := 2, ground := Go.Ground.guard }], guard := some (2, false) }) (v := undef) rfl (by kernel_rfl) (by kernel_rfl) (by kernel_rfl) (fun _ _ _ h => h) (Or.inr ⟨by rfl, rfl⟩) (by assumption) ?_
        try simp only [Act.put, List.setIfInBounds_toArray, List.set_cons_zero, List.set_cons_succ]
        refine wpAnyH_take (i := 10) (oi := { dst := some 86, op := Go.Op.move (Go.Operand.tmp 85), type := 4, pos := "law.go:124", after := #[{ on := 9, ground := Go.Ground.data }, { on := 5, ground := Go.Ground.chain }, { on := 2, ground := Go.Ground.guard }], guard := some (2, false) }) (v := undef) rfl (by kernel_rfl) (by kernel_rfl) (by kernel_rfl) (fun _ _ _ h => h) (Or.inr ⟨by rfl, rfl⟩) (by assumption) ?_
        try simp only [Act.put, List.setIfInBounds_toArray, List.set_cons_zero, List.set_cons_succ]
        refine wpAnyH_take (i := 11) (oi := { dst := some 87, op := Go.Op.move (Go.Operand.tmp 12), type := 39, pos := "law.go:124", after := #[{ on := 10, ground := Go.Ground.guard }], guard := some (10, true) }) (v := undef) rfl (by kernel_rfl) (by kernel_rfl) (by kernel_rfl) (fun _ _ _ h => h) (Or.inr ⟨by rfl, rfl⟩) (by assumption) ?_
        try simp only [Act.put, List.setIfInBounds_toArray, List.set_cons_zero, List.set_cons_succ]
        refine wpAnyH_take (i := 12) (oi := { dst := some 88, op := Go.Op.indexAddr 39 (Go.Operand.tmp 87) (Go.Operand.const (Go.Value.int Go.IntKind.i64 0)), type := 0, pos := "law.go:124", after := #[{ on := 11, ground := Go.Ground.data }, { on := 10, ground := Go.Ground.guard }], guard := some (10, true) }) (v := undef) rfl (by kernel_rfl) (by kernel_rfl) (by kernel_rfl) (fun _ _ _ h => h) (Or.inr ⟨by rfl, rfl⟩) (by assumption) ?_
        try simp only [Act.put, List.setIfInBounds_toArray, List.set_cons_zero, List.set_cons_succ]
        refine wpAnyH_take (i := 13) (oi := { dst := some 89, op := Go.Op.fieldAddr 38 (Go.Operand.tmp 88) 0, type := 0, pos := "law.go:124", after := #[{ on := 12, ground := Go.Ground.data }, { on := 10, ground := Go.Ground.guard }], guard := some (10, true) }) (v := undef) rfl (by kernel_rfl) (by kernel_rfl) (by kernel_rfl) (fun _ _ _ h => h) (Or.inr ⟨by rfl, rfl⟩) (by assumption) ?_
        try simp only [Act.put, List.setIfInBounds_toArray, List.set_cons_zero, List.set_cons_succ]
        refine wpAnyH_take (i := 14) (oi := { dst := some 90, op := Go.Op.load 9 (Go.Operand.tmp 89), type := 9, pos := "law.go:124", after := #[{ on := 13, ground := Go.Ground.data }, { on := 10, ground := Go.Ground.guard }], guard := some (10, true) }) (v := undef) rfl (by kernel_rfl) (by kernel_rfl) (by kernel_rfl) (fun _ _ _ h => h) (Or.inr ⟨by rfl, rfl⟩) (by assumption) ?_
        try simp only [Act.put, List.setIfInBounds_toArray, List.set_cons_zero, List.set_cons_succ]
        refine wpAnyH_take (i := 15) (oi := { dst := some 91, op := Go.Op.move (Go.Operand.tmp 1), type := 9, pos := "law.go:124", after := #[{ on := 10, ground := Go.Ground.guard }], guard := some (10, true) }) (v := undef) rfl (by kernel_rfl) (by kernel_rfl) (by kernel_rfl) (fun _ _ _ h => h) (Or.inr ⟨by rfl, rfl⟩) (by assumption) ?_
        try simp only [Act.put, List.setIfInBounds_toArray, List.set_cons_zero, List.set_cons_succ]
        refine wpAnyH_take (i := 16) (oi := { dst := some 92, op := Go.Op.binOp Go.BinOp.eql 9 (Go.Operand.tmp 90) (Go.Operand.tmp 91) 9, type := 4, pos := "law.go:124", after := #[{ on := 14, ground := Go.Ground.data }, { on := 15, ground := Go.Ground.data }, { on := 10, ground := Go.Ground.guard }], guard := some (10, true) }) (v := undef) rfl (by kernel_rfl) (by kernel_rfl) (by kernel_rfl) (fun _ _ _ h => h) (Or.inr ⟨by rfl, rfl⟩) (by assumption) ?_
        try simp only [Act.put, List.setIfInBounds_toArray, List.set_cons_zero, List.set_cons_succ]
        refine wpAnyH_take (i := 17) (oi := { dst := some 93, op := Go.Op.pick (Go.Operand.tmp 86) (Go.Operand.tmp 92) (Go.Operand.const (Go.Value.bool false)), type := 4, pos := "law.go:124", after := #[{ on := 10, ground := Go.Ground.data }, { on := 16, ground := Go.Ground.data }, { on := 2, ground := Go.Ground.guard }], guard := some (2, false) }) (v := undef) rfl (by kernel_rfl) (by kernel_rfl) (by kernel_rfl) (fun _ _ _ h => h) (Or.inr ⟨by rfl, rfl⟩) (by assumption) ?_
        try simp only [Act.put, List.setIfInBounds_toArray, List.set_cons_zero, List.set_cons_succ]
        refine wpAnyH_take (i := 18) (oi := { dst := some 94, op := Go.Op.move (Go.Operand.tmp 93), type := 4, pos := "law.go:124", after := #[{ on := 17, ground := Go.Ground.data }, { on := 10, ground := Go.Ground.chain }, { on := 2, ground := Go.Ground.guard }], guard := some (2, false) }) (v := undef) rfl (by kernel_rfl) (by kernel_rfl) (by kernel_rfl) (fun _ _ _ h => h) (Or.inr ⟨by rfl, rfl⟩) (by assumption) ?_
        try simp only [Act.put, List.setIfInBounds_toArray, List.set_cons_zero, List.set_cons_succ]
        refine wpAnyH_take (i := 19) (oi := { dst := some 95, op := Go.Op.move (Go.Operand.tmp 12), type := 39, pos := "law.go:124", after := #[{ on := 18, ground := Go.Ground.guard }], guard := some (18, true) }) (v := undef) rfl (by kernel_rfl) (by kernel_rfl) (by kernel_rfl) (fun _ _ _ h => h) (Or.inr ⟨by rfl, rfl⟩) (by assumption) ?_
        try simp only [Act.put, List.setIfInBounds_toArray, List.set_cons_zero, List.set_cons_succ]
        refine wpAnyH_take (i := 20) (oi := { dst := some 96, op := Go.Op.indexAddr 39 (Go.Operand.tmp 95) (Go.Operand.const (Go.Value.int Go.IntKind.i64 1)), type := 0, pos := "law.go:124", after := #[{ on := 19, ground := Go.Ground.data }, { on := 18, ground := Go.Ground.guard }], guard := some (18, true) }) (v := undef) rfl (by kernel_rfl) (by kernel_rfl) (by kernel_rfl) (fun _ _ _ h => h) (Or.inr ⟨by rfl, rfl⟩) (by assumption) ?_
        try simp only [Act.put, List.setIfInBounds_toArray, List.set_cons_zero, List.set_cons_succ]
        refine wpAnyH_take (i := 21) (oi := { dst := some 97, op := Go.Op.fieldAddr 38 (Go.Operand.tmp 96) 0, type := 0, pos := "law.go:124", after := #[{ on := 20, ground := Go.Ground.data }, { on := 18, ground := Go.Ground.guard }], guard := some (18, true) }) (v := undef) rfl (by kernel_rfl) (by kernel_rfl) (by kernel_rfl) (fun _ _ _ h => h) (Or.inr ⟨by rfl, rfl⟩) (by assumption) ?_
        try simp only [Act.put, List.setIfInBounds_toArray, List.set_cons_zero, List.set_cons_succ]
        refine wpAnyH_take (i := 22) (oi := { dst := some 98, op := Go.Op.load 9 (Go.Operand.tmp 97), type := 9, pos := "law.go:124", after := #[{ on := 21, ground := Go.Ground.data }, { on := 18, ground := Go.Ground.guard }], guard := some (18, true) }) (v := undef) rfl (by kernel_rfl) (by kernel_rfl) (by kernel_rfl) (fun _ _ _ h => h) (Or.inr ⟨by rfl, rfl⟩) (by assumption) ?_
        try simp only [Act.put, List.setIfInBounds_toArray, List.set_cons_zero, List.set_cons_succ]
        refine wpAnyH_take (i := 23) (oi := { dst := some 99, op := Go.Op.move (Go.Operand.tmp 2), type := 9, pos := "law.go:124", after := #[{ on := 18, ground := Go.Ground.guard }], guard := some (18, true) }) (v := undef) rfl (by kernel_rfl) (by kernel_rfl) (by kernel_rfl) (fun _ _ _ h => h) (Or.inr ⟨by rfl, rfl⟩) (by assumption) ?_
        try simp only [Act.put, List.setIfInBounds_toArray, List.set_cons_zero, List.set_cons_succ]
        refine wpAnyH_take (i := 24) (oi := { dst := some 100, op := Go.Op.binOp Go.BinOp.eql 9 (Go.Operand.tmp 98) (Go.Operand.tmp 99) 9, type := 4, pos := "law.go:124", after := #[{ on := 22, ground := Go.Ground.data }, { on := 23, ground := Go.Ground.data }, { on := 18, ground := Go.Ground.guard }], guard := some (18, true) }) (v := undef) rfl (by kernel_rfl) (by kernel_rfl) (by kernel_rfl) (fun _ _ _ h => h) (Or.inr ⟨by rfl, rfl⟩) (by assumption) ?_
        try simp only [Act.put, List.setIfInBounds_toArray, List.set_cons_zero, List.set_cons_succ]
        refine wpAnyH_take (i := 25) (oi := { dst := some 101, op := Go.Op.pick (Go.Operand.tmp 94) (Go.Operand.tmp 100) (Go.Operand.const (Go.Value.bool false)), type := 4, pos := "law.go:124", after := #[{ on := 18, ground := Go.Ground.data }, { on := 24, ground := Go.Ground.data }, { on := 2, ground := Go.Ground.guard }], guard := some (2, false) }) (v := undef) rfl (by kernel_rfl) (by kernel_rfl) (by kernel_rfl) (fun _ _ _ h => h) (Or.inr ⟨by rfl, rfl⟩) (by assumption) ?_
        try simp only [Act.put, List.setIfInBounds_toArray, List.set_cons_zero, List.set_cons_succ]
        refine wpAnyH_take (i := 26) (oi := { dst := some 102, op := Go.Op.move (Go.Operand.tmp 101), type := 4, pos := "law.go:124", after := #[{ on := 25, ground := Go.Ground.data }, { on := 18, ground := Go.Ground.chain }, { on := 2, ground := Go.Ground.guard }], guard := some (2, false) }) (v := undef) rfl (by kernel_rfl) (by kernel_rfl) (by kernel_rfl) (fun _ _ _ h => h) (Or.inr ⟨by rfl, rfl⟩) (by assumption) ?_
        try simp only [Act.put, List.setIfInBounds_toArray, List.set_cons_zero, List.set_cons_succ]
        refine wpAnyH_take (i := 27) (oi := { dst := some 103, op := Go.Op.move (Go.Operand.tmp 12), type := 39, pos := "law.go:124", after := #[{ on := 26, ground := Go.Ground.guard }], guard := some (26, true) }) (v := undef) rfl (by kernel_rfl) (by kernel_rfl) (by kernel_rfl) (fun _ _ _ h => h) (Or.inr ⟨by rfl, rfl⟩) (by assumption) ?_
        try simp only [Act.put, List.setIfInBounds_toArray, List.set_cons_zero, List.set_cons_succ]
        refine wpAnyH_take (i := 28) (oi := { dst := some 104, op := Go.Op.indexAddr 39 (Go.Operand.tmp 103) (Go.Operand.const (Go.Value.int Go.IntKind.i64 0)), type := 0, pos := "law.go:124", after := #[{ on := 27, ground := Go.Ground.data }, { on := 26, ground := Go.Ground.guard }], guard := some (26, true) }) (v := undef) rfl (by kernel_rfl) (by kernel_rfl) (by kernel_rfl) (fun _ _ _ h => h) (Or.inr ⟨by rfl, rfl⟩) (by assumption) ?_
        try simp only [Act.put, List.setIfInBounds_toArray, List.set_cons_zero, List.set_cons_succ]
        refine wpAnyH_take (i := 29) (oi := { dst := some 105, op := Go.Op.fieldAddr 38 (Go.Operand.tmp 104) 1, type := 0, pos := "law.go:124", after := #[{ on := 28, ground := Go.Ground.data }, { on := 26, ground := Go.Ground.guard }], guard := some (26, true) }) (v := undef) rfl (by kernel_rfl) (by kernel_rfl) (by kernel_rfl) (fun _ _ _ h => h) (Or.inr ⟨by rfl, rfl⟩) (by assumption) ?_
        try simp only [Act.put, List.setIfInBounds_toArray, List.set_cons_zero, List.set_cons_succ]
        refine wpAnyH_take (i := 30) (oi := { dst := some 106, op := Go.Op.load 27 (Go.Operand.tmp 105), type := 27, pos := "law.go:124", after := #[{ on := 29, ground := Go.Ground.data }, { on := 26, ground := Go.Ground.guard }], guard := some (26, true) }) (v := undef) rfl (by kernel_rfl) (by kernel_rfl) (by kernel_rfl) (fun _ _ _ h => h) (Or.inr ⟨by rfl, rfl⟩) (by assumption) ?_
        try simp only [Act.put, List.setIfInBounds_toArray, List.set_cons_zero, List.set_cons_succ]
        refine wpAnyH_take (i := 31) (oi := { dst := some 107, op := Go.Op.load 27 (Go.Operand.tmp 3), type := 27, pos := "law.go:124", after := #[{ on := 26, ground := Go.Ground.guard }], guard := some (26, true) }) (v := undef) rfl (by kernel_rfl) (by kernel_rfl) (by kernel_rfl) (fun _ _ _ h => h) (Or.inr ⟨by rfl, rfl⟩) (by assumption) ?_
        try simp only [Act.put, List.setIfInBounds_toArray, List.set_cons_zero, List.set_cons_succ]
        refine wpAnyH_take (i := 32) (oi := { dst := some 108, op := Go.Op.call { callee := Go.Callee.value (Go.Operand.func 12), args := #[Go.Operand.tmp 106, Go.Operand.tmp 107], argTypes := #[27, 27] }, type := 4, pos := "law.go:124", after := #[{ on := 30, ground := Go.Ground.data }, { on := 31, ground := Go.Ground.data }, { on := 26, ground := Go.Ground.chain }, { on := 26, ground := Go.Ground.guard }], guard := some (26, true) }) (v := undef) rfl (by kernel_rfl) (by kernel_rfl) (by kernel_rfl) (fun _ _ _ h => h) (Or.inr ⟨by rfl, rfl⟩) (by assumption) ?_
        try simp only [Act.put, List.setIfInBounds_toArray, List.set_cons_zero, List.set_cons_succ]
        refine wpAnyH_take (i := 33) (oi := { dst := some 109, op := Go.Op.pick (Go.Operand.tmp 102) (Go.Operand.tmp 108) (Go.Operand.const (Go.Value.bool false)), type := 4, pos := "law.go:124", after := #[{ on := 26, ground := Go.Ground.data }, { on := 32, ground := Go.Ground.data }, { on := 2, ground := Go.Ground.guard }], guard := some (2, false) }) (v := undef) rfl (by kernel_rfl) (by kernel_rfl) (by kernel_rfl) (fun _ _ _ h => h) (Or.inr ⟨by rfl, rfl⟩) (by assumption) ?_
        try simp only [Act.put, List.setIfInBounds_toArray, List.set_cons_zero, List.set_cons_succ]
        refine wpAnyH_take (i := 34) (oi := { dst := some 110, op := Go.Op.move (Go.Operand.tmp 109), type := 4, pos := "law.go:124", after := #[{ on := 33, ground := Go.Ground.data }, { on := 32, ground := Go.Ground.chain }, { on := 2, ground := Go.Ground.guard }], guard := some (2, false) }) (v := undef) rfl (by kernel_rfl) (by kernel_rfl) (by kernel_rfl) (fun _ _ _ h => h) (Or.inr ⟨by rfl, rfl⟩) (by assumption) ?_
        try simp only [Act.put, List.setIfInBounds_toArray, List.set_cons_zero, List.set_cons_succ]
        refine wpAnyH_take (i := 35) (oi := { dst := some 111, op := Go.Op.move (Go.Operand.tmp 12), type := 39, pos := "law.go:124", after := #[{ on := 34, ground := Go.Ground.guard }], guard := some (34, true) }) (v := undef) rfl (by kernel_rfl) (by kernel_rfl) (by kernel_rfl) (fun _ _ _ h => h) (Or.inr ⟨by rfl, rfl⟩) (by assumption) ?_
        try simp only [Act.put, List.setIfInBounds_toArray, List.set_cons_zero, List.set_cons_succ]
        refine wpAnyH_take (i := 36) (oi := { dst := some 112, op := Go.Op.indexAddr 39 (Go.Operand.tmp 111) (Go.Operand.const (Go.Value.int Go.IntKind.i64 1)), type := 0, pos := "law.go:124", after := #[{ on := 35, ground := Go.Ground.data }, { on := 34, ground := Go.Ground.guard }], guard := some (34, true) }) (v := undef) rfl (by kernel_rfl) (by kernel_rfl) (by kernel_rfl) (fun _ _ _ h => h) (Or.inr ⟨by rfl, rfl⟩) (by assumption) ?_
        try simp only [Act.put, List.setIfInBounds_toArray, List.set_cons_zero, List.set_cons_succ]
        refine wpAnyH_take (i := 37) (oi := { dst := some 113, op := Go.Op.fieldAddr 38 (Go.Operand.tmp 112) 1, type := 0, pos := "law.go:124", after := #[{ on := 36, ground := Go.Ground.data }, { on := 34, ground := Go.Ground.guard }], guard := some (34, true) }) (v := undef) rfl (by kernel_rfl) (by kernel_rfl) (by kernel_rfl) (fun _ _ _ h => h) (Or.inr ⟨by rfl, rfl⟩) (by assumption) ?_
        try simp only [Act.put, List.setIfInBounds_toArray, List.set_cons_zero, List.set_cons_succ]
        refine wpAnyH_take (i := 38) (oi := { dst := some 114, op := Go.Op.load 27 (Go.Operand.tmp 113), type := 27, pos := "law.go:124", after := #[{ on := 37, ground := Go.Ground.data }, { on := 34, ground := Go.Ground.guard }], guard := some (34, true) }) (v := undef) rfl (by kernel_rfl) (by kernel_rfl) (by kernel_rfl) (fun _ _ _ h => h) (Or.inr ⟨by rfl, rfl⟩) (by assumption) ?_
        try simp only [Act.put, List.setIfInBounds_toArray, List.set_cons_zero, List.set_cons_succ]
        refine wpAnyH_take (i := 39) (oi := { dst := some 115, op := Go.Op.load 27 (Go.Operand.tmp 3), type := 27, pos := "law.go:124", after := #[{ on := 34, ground := Go.Ground.guard }], guard := some (34, true) }) (v := undef) rfl (by kernel_rfl) (by kernel_rfl) (by kernel_rfl) (fun _ _ _ h => h) (Or.inr ⟨by rfl, rfl⟩) (by assumption) ?_
        try simp only [Act.put, List.setIfInBounds_toArray, List.set_cons_zero, List.set_cons_succ]
        refine wpAnyH_take (i := 40) (oi := { dst := some 116, op := Go.Op.call { callee := Go.Callee.value (Go.Operand.func 12), args := #[Go.Operand.tmp 114, Go.Operand.tmp 115], argTypes := #[27, 27] }, type := 4, pos := "law.go:124", after := #[{ on := 38, ground := Go.Ground.data }, { on := 39, ground := Go.Ground.data }, { on := 34, ground := Go.Ground.chain }, { on := 34, ground := Go.Ground.guard }], guard := some (34, true) }) (v := undef) rfl (by kernel_rfl) (by kernel_rfl) (by kernel_rfl) (fun _ _ _ h => h) (Or.inr ⟨by rfl, rfl⟩) (by assumption) ?_
        try simp only [Act.put, List.setIfInBounds_toArray, List.set_cons_zero, List.set_cons_succ]
        refine wpAnyH_take (i := 41) (oi := { dst := some 117, op := Go.Op.pick (Go.Operand.tmp 110) (Go.Operand.tmp 116) (Go.Operand.const (Go.Value.bool false)), type := 4, pos := "law.go:124", after := #[{ on := 34, ground := Go.Ground.data }, { on := 40, ground := Go.Ground.data }, { on := 2, ground := Go.Ground.guard }], guard := some (2, false) }) (v := undef) rfl (by kernel_rfl) (by kernel_rfl) (by kernel_rfl) (fun _ _ _ h => h) (Or.inr ⟨by rfl, rfl⟩) (by assumption) ?_
        try simp only [Act.put, List.setIfInBounds_toArray, List.set_cons_zero, List.set_cons_succ]
        refine wpAnyH_take (i := 42) (oi := { dst := some 118, op := Go.Op.pick (Go.Operand.tmp 78) (Go.Operand.const (Go.Value.bool true)) (Go.Operand.tmp 117), type := 4, pos := "law.go:124", after := #[{ on := 2, ground := Go.Ground.data }, { on := 41, ground := Go.Ground.data }], guard := none }) (v := ?_) rfl (by kernel_rfl) (by kernel_rfl) (by kernel_rfl) (fun _ _ _ h => h) (Or.inl ⟨by rfl, ?_⟩) (by assumption) ?_
        rotate_left 1
        · (intro w hSw; (try dsimp only at hSw); go_simp; first | done | with_reducible rfl)
        try simp only [Act.put, List.setIfInBounds_toArray, List.set_cons_zero, List.set_cons_succ]
        refine wpAnyH_take (i := 43) (oi := { dst := some 6, op := Go.Op.assign (Go.Operand.tmp 118), type := 4, pos := "law.go:124", after := #[{ on := 42, ground := Go.Ground.data }, { on := 40, ground := Go.Ground.chain }, { on := 0, ground := Go.Ground.phase }, { on := 1, ground := Go.Ground.phase }, { on := 2, ground := Go.Ground.phase }, { on := 3, ground := Go.Ground.phase }, { on := 4, ground := Go.Ground.phase }, { on := 5, ground := Go.Ground.phase }, { on := 6, ground := Go.Ground.phase }, { on := 7, ground := Go.Ground.phase }, { on := 8, ground := Go.Ground.phase }, { on := 9, ground := Go.Ground.phase }, { on := 10, ground := Go.Ground.phase }, { on := 11, ground := Go.Ground.phase }, { on := 12, ground := Go.Ground.phase }, { on := 13, ground := Go.Ground.phase }, { on := 14, ground := Go.Ground.phase }, { on := 15, ground := Go.Ground.phase }, { on := 16, ground := Go.Ground.phase }, { on := 17, ground := Go.Ground.phase }, { on := 18, ground := Go.Ground.phase }, { on := 19, ground := Go.Ground.phase }, { on := 20, ground := Go.Ground.phase }, { on := 21, ground := Go.Ground.phase }, { on := 22, ground := Go.Ground.phase }, { on := 23, ground := Go.Ground.phase }, { on := 24, ground := Go.Ground.phase }, { on := 25, ground := Go.Ground.phase }, { on := 26, ground := Go.Ground.phase }, { on := 27, ground := Go.Ground.phase }, { on := 28, ground := Go.Ground.phase }, { on := 29, ground := Go.Ground.phase }, { on := 30, ground := Go.Ground.phase }, { on := 31, ground := Go.Ground.phase }, { on := 32, ground := Go.Ground.phase }, { on := 33, ground := Go.Ground.phase }, { on := 34, ground := Go.Ground.phase }, { on := 35, ground := Go.Ground.phase }, { on := 36, ground := Go.Ground.phase }, { on := 37, ground := Go.Ground.phase }, { on := 38, ground := Go.Ground.phase }, { on := 39, ground := Go.Ground.phase }, { on := 40, ground := Go.Ground.phase }, { on := 41, ground := Go.Ground.phase }, { on := 42, ground := Go.Ground.phase }], guard := none }) (v := ?_) rfl (by kernel_rfl) (by kernel_rfl) (by kernel_rfl) (fun _ _ _ h => h) (Or.inl ⟨by rfl, ?_⟩) (by assumption) ?_
        rotate_left 1
        · (intro w hSw; (try dsimp only at hSw); go_simp; first | done | with_reducible rfl)
        try simp only [Act.put, List.setIfInBounds_toArray, List.set_cons_zero, List.set_cons_succ]
        refine wpAnyH_done (by kernel_rfl) ?_ _
        refine NoPanic.normal ?_
        have HK := Lib.hid (H7.out.trans (hHeld : Keep (fun _ => False) w7 _))
        clear hHeld
        go_wp2_with fail
        go_ret
        exact ⟨rfl, HK.out⟩
    | some s =>
      obtain ⟨hne, hru⟩ := HC.out.2.2 s rfl
      have hb12 : (B1.toList == B2.toList) = false := by
        rw [HCT.out.2.2.2.2.2]
        exact decide_eq_false hne
      have hss : (s == s) = true := by simp
      rw [show fileV (some s) = .tuple #[Bytes.str s, .int .i64 0] from rfl]
      go_wp2_with fail
      refine (HC.out.2.1 w5 H5.out.1).mono ?_
      rintro e w6 ⟨rfl, q6⟩
      rw [show ffileV (some s) = .tuple #[Bytes.str s, .bool true] from rfl]
      have H6 := Lib.hid (And.intro (H5.out.2.1.trans q6) (H5.out.2.2.keep q6))
      clear q6
      have hcr := fun (hbig : s.length ≤ 9223372036854775807) W => crules_any 500000 (by decide) s hbig W
      rw [hru] at hcr
      have hsl : s.length ≤ 9223372036854775807 := by
        rcases Nat.lt_or_ge 1000 s.length with h | h
        · unfold rulesR splitR at hru
          rw [if_pos h] at hru
          cases hru
        · omega
      have HU := Lib.hid (hcr hsl)
      clear hcr hne hru hsl
      go_wp2_with fail
      refine (HU.out w6).mono ?_
      rintro e w7 ⟨hV, q7⟩
      obtain ⟨v, hv, hOU⟩ := hV
      subst hv
      obtain ⟨aL, cL, hvs, hleL, hRS⟩ := hOU.form
      subst hvs
      have H7 := Lib.hid (And.intro (H6.out.1.trans q7) (And.intro (H6.out.2.keep q7) (hRS.mono (ok' := fun _ => True) (fun _ _ => trivial))))
      clear q7 hOU hRS hleL
      obtain ⟨bl, off, a0, c0, eaL, hbl, -, hle0, L0, C0⟩ := H7.out.2.2.get (i := 0) (x := ⟨l, t⟩) rfl
      obtain ⟨bl', off', a1, c1, eaL', -, -, hle1, L1, C1⟩ := H7.out.2.2.get (i := 1) (x := ⟨m, t⟩) rfl
      rw [eaL] at eaL'
      injection eaL' with eaL'
      injection eaL' with e1 e2
      subst e1 e2
      subst eaL
      have D0 : ∀ j v, (rcells ⟨l, t⟩ a0 c0)[j]? = some v → w7.cell? ⟨bl, off + j, none⟩ = some v := fun j v hv => by
        have := C0 j v hv
        rwa [show off + 0 * 9 + j = off + j from by omega] at this
      have D1 : ∀ j v, (rcells ⟨m, t⟩ a1 c1)[j]? = some v → w7.cell? ⟨bl, off + 9 + j, none⟩ = some v := fun j v hv => by
        have := C1 j v hv
        rwa [show off + 1 * 9 + j = off + 9 + j from by omega] at this
      have hS : ∀ w', Keep (fun _ => False) w7 w' → (fun w' => Keep (fun _ => False) w7 w' ∧ w'.cell? ⟨n0, 0, none⟩ = some (.int .i64 t.kind) ∧ w'.cell? ⟨n0, 1, none⟩ = some (.int .u64 t.set.x0) ∧ w'.cell? ⟨n0, 2, none⟩ = some (.int .u64 t.set.x1) ∧ w'.cell? ⟨n0, 3, none⟩ = some (.int .u64 t.set.x2) ∧ w'.cell? ⟨n0, 4, none⟩ = some (.int .u64 t.set.x3) ∧ w'.cell? ⟨n0, 5, none⟩ = some (.int .i64 t.mn) ∧ w'.cell? ⟨n0, 6, none⟩ = some (.int .i64 t.mx) ∧ w'.cell? ⟨n0, 7, none⟩ = some (.slice a t.subs.length c) ∧ w'.cell? ⟨bl, off, none⟩ = some (.string B1) ∧ w'.cell? ⟨bl, off + 1, none⟩ = some (.int .i64 t.kind) ∧ w'.cell? ⟨bl, off + 1 + 1, none⟩ = some (.int .u64 t.set.x0) ∧ w'.cell? ⟨bl, off + 1 + 2, none⟩ = some (.int .u64 t.set.x1) ∧ w'.cell? ⟨bl, off + 1 + 3, none⟩ = some (.int .u64 t.set.x2) ∧ w'.cell? ⟨bl, off + 1 + 4, none⟩ = some (.int .u64 t.set.x3) ∧ w'.cell? ⟨bl, off + 1 + 5, none⟩ = some (.int .i64 t.mn) ∧ w'.cell? ⟨bl, off + 1 + 6, none⟩ = some (.int .i64 t.mx) ∧ w'.cell? ⟨bl, off + 1 + 7, none⟩ = some (.slice a0 t.subs.length c0) ∧ w'.cell? ⟨bl, off + 9, none⟩ = some (.string B2) ∧ w'.cell? ⟨bl, off + 9 + 1, none⟩ = some (.int .i64 t.kind) ∧ w'.cell? ⟨bl, off + 9 + 1 + 1, none⟩ = some (.int .u64 t.set.x0) ∧ w'.cell? ⟨bl, off + 9 + 1 + 2, none⟩ = some (.int .u64 t.set.x1) ∧ w'.cell? ⟨bl, off + 9 + 1 + 3, none⟩ = some (.int .u64 t.set.x2) ∧ w'.cell? ⟨bl, off + 9 + 1 + 4, none⟩ = some (.int .u64 t.set.x3) ∧ w'.cell? ⟨bl, off + 9 + 1 + 5, none⟩ = some (.int .i64 t.mn) ∧ w'.cell? ⟨bl, off + 9 + 1 + 6, none⟩ = some (.int .i64 t.mx) ∧ w'.cell? ⟨bl, off + 9 + 1 + 7, none⟩ = some (.slice a1 t.subs.length c1)) w' := fun w' q' => by
        have N := (H7.out.2.1.keep q').cell
        have r0 := rnine (fun j v hv => (q'.cell (a := ⟨bl, off + j, none⟩) hbl (fun h => h)).trans (D0 j v hv))
        have r1 := rnine (fun j v hv => (q'.cell (a := ⟨bl, off + 9 + j, none⟩) hbl (fun h => h)).trans (D1 j v hv))
        dsimp only at r0 r1
        rw [HCT.out.2.2.2.1] at r0
        rw [HCT.out.2.2.2.2.1] at r1
        exact ⟨q', N.cell (o := 0) rfl, N.cell (o := 1) rfl, N.cell (o := 2) rfl, N.cell (o := 3) rfl, N.cell (o := 4) rfl, N.cell (o := 5) rfl, N.cell (o := 6) rfl, N.cell (o := 7) rfl, r0.1, r0.2.1, r0.2.2.1, r0.2.2.2.1, r0.2.2.2.2.1, r0.2.2.2.2.2.1, r0.2.2.2.2.2.2.1, r0.2.2.2.2.2.2.2.1, r0.2.2.2.2.2.2.2.2, r1⟩
      have hsame0 : ∀ w', Keep (fun _ => False) w7 w' → Calls Tryz.prog 12 #[nodeV t a0 c0, nodeV t a c] w' fun e w'' => e = .returned (.bool true) ∧ Keep (fun _ => False) w' w'' := fun w' q' => same_self t a0 c0 a c w' (L0.keepF q') (H7.out.2.1.keep q').lie
      have hsame1 : ∀ w', Keep (fun _ => False) w7 w' → Calls Tryz.prog 12 #[nodeV t a1 c1, nodeV t a c] w' fun e w'' => e = .returned (.bool true) ∧ Keep (fun _ => False) w' w'' := fun w' q' => same_self t a1 c1 a c w' (L1.keepF q') (H7.out.2.1.keep q').lie
      have HS := Lib.hid (And.intro hS (And.intro hsame0 hsame1))
      clear hS hsame0 hsame1 C0 C1 D0 D1 L0 L1 hle0 hle1
      go_upto_region 9 with fail
      refine wp_region_noPanic ?_
      refine wp_region_held_drew (S := (fun w' => Keep (fun _ => False) w7 w' ∧ w'.cell? ⟨n0, 0, none⟩ = some (.int .i64 t.kind) ∧ w'.cell? ⟨n0, 1, none⟩ = some (.int .u64 t.set.x0) ∧ w'.cell? ⟨n0, 2, none⟩ = some (.int .u64 t.set.x1) ∧ w'.cell? ⟨n0, 3, none⟩ = some (.int .u64 t.set.x2) ∧ w'.cell? ⟨n0, 4, none⟩ = some (.int .u64 t.set.x3) ∧ w'.cell? ⟨n0, 5, none⟩ = some (.int .i64 t.mn) ∧ w'.cell? ⟨n0, 6, none⟩ = some (.int .i64 t.mx) ∧ w'.cell? ⟨n0, 7, none⟩ = some (.slice a t.subs.length c) ∧ w'.cell? ⟨bl, off, none⟩ = some (.string B1) ∧ w'.cell? ⟨bl, off + 1, none⟩ = some (.int .i64 t.kind) ∧ w'.cell? ⟨bl, off + 1 + 1, none⟩ = some (.int .u64 t.set.x0) ∧ w'.cell? ⟨bl, off + 1 + 2, none⟩ = some (.int .u64 t.set.x1) ∧ w'.cell? ⟨bl, off + 1 + 3, none⟩ = some (.int .u64 t.set.x2) ∧ w'.cell? ⟨bl, off + 1 + 4, none⟩ = some (.int .u64 t.set.x3) ∧ w'.cell? ⟨bl, off + 1 + 5, none⟩ = some (.int .i64 t.mn) ∧ w'.cell? ⟨bl, off + 1 + 6, none⟩ = some (.int .i64 t.mx) ∧ w'.cell? ⟨bl, off + 1 + 7, none⟩ = some (.slice a0 t.subs.length c0) ∧ w'.cell? ⟨bl, off + 9, none⟩ = some (.string B2) ∧ w'.cell? ⟨bl, off + 9 + 1, none⟩ = some (.int .i64 t.kind) ∧ w'.cell? ⟨bl, off + 9 + 1 + 1, none⟩ = some (.int .u64 t.set.x0) ∧ w'.cell? ⟨bl, off + 9 + 1 + 2, none⟩ = some (.int .u64 t.set.x1) ∧ w'.cell? ⟨bl, off + 9 + 1 + 3, none⟩ = some (.int .u64 t.set.x2) ∧ w'.cell? ⟨bl, off + 9 + 1 + 4, none⟩ = some (.int .u64 t.set.x3) ∧ w'.cell? ⟨bl, off + 9 + 1 + 5, none⟩ = some (.int .i64 t.mn) ∧ w'.cell? ⟨bl, off + 9 + 1 + 6, none⟩ = some (.int .i64 t.mx) ∧ w'.cell? ⟨bl, off + 9 + 1 + 7, none⟩ = some (.slice a1 t.subs.length c1))) (by kernel_rfl) ?_ (fun hHeld => ?_)
      · exact HS.out.1 _ ((Keep.refl _ _).drew)
      refine wpAnyH_take (i := 0) (oi := { dst := some 76, op := Go.Op.move (Go.Operand.tmp 11), type := 4, pos := "law.go:124", after := #[], guard := none }) (v := ?_) rfl (by kernel_rfl) (by kernel_rfl) (by kernel_rfl) (fun _ _ _ h => h) (Or.inl ⟨by rfl, ?_⟩) (by assumption) ?_
      rotate_left 1
      · (intro w hSw; (try dsimp only at hSw); go_simp; first | done | with_reducible rfl)
      try simp only [Act.put, List.setIfInBounds_toArray, List.set_cons_zero, List.set_cons_succ]
      refine wpAnyH_take (i := 1) (oi := { dst := some 77, op := Go.Op.unOp Go.UnOp.not 4 (Go.Operand.tmp 76), type := 4, pos := "law.go:124", after := #[{ on := 0, ground := Go.Ground.data }], guard := none }) (v := ?_) rfl (by kernel_rfl) (by kernel_rfl) (by kernel_rfl) (fun _ _ _ h => h) (Or.inl ⟨by rfl, ?_⟩) (by assumption) ?_
      rotate_left 1
      · (intro w hSw; (try dsimp only at hSw); go_simp; first | done | with_reducible rfl)
      try simp only [Act.put, List.setIfInBounds_toArray, List.set_cons_zero, List.set_cons_succ]
      refine wpAnyH_take (i := 2) (oi := { dst := some 78, op := Go.Op.move (Go.Operand.tmp 77), type := 4, pos := "law.go:124", after := #[{ on := 1, ground := Go.Ground.data }], guard := none }) (v := ?_) rfl (by kernel_rfl) (by kernel_rfl) (by kernel_rfl) (fun _ _ _ h => h) (Or.inl ⟨by rfl, ?_⟩) (by assumption) ?_
      rotate_left 1
      · (intro w hSw; (try dsimp only at hSw); go_simp; first | done | with_reducible rfl)
      try simp only [Act.put, List.setIfInBounds_toArray, List.set_cons_zero, List.set_cons_succ]
      refine wpAnyH_take (i := 3) (oi := { dst := some 79, op := Go.Op.move (Go.Operand.tmp 14), type := 30, pos := "law.go:124", after := #[{ on := 2, ground := Go.Ground.guard }], guard := some (2, false) }) (v := ?_) rfl (by kernel_rfl) (by kernel_rfl) (by kernel_rfl) (fun _ _ _ h => h) (Or.inl ⟨by rfl, ?_⟩) (by assumption) ?_
      rotate_left 1
      · (intro w hSw; (try dsimp only at hSw); go_simp; first | done | with_reducible rfl)
      try simp only [Act.put, List.setIfInBounds_toArray, List.set_cons_zero, List.set_cons_succ]
      refine wpAnyH_take (i := 4) (oi := { dst := some 80, op := Go.Op.binOp Go.BinOp.eql 30 (Go.Operand.tmp 79) (Go.Operand.const (Go.Value.int Go.IntKind.i64 0)) 30, type := 4, pos := "law.go:124", after := #[{ on := 3, ground := Go.Ground.data }, { on := 2, ground := Go.Ground.guard }], guard := some (2, false) }) (v := ?_) rfl (by kernel_rfl) (by kernel_rfl) (by kernel_rfl) (fun _ _ _ h => h) (Or.inl ⟨by rfl, ?_⟩) (by assumption) ?_
      rotate_left 1
      · (intro w hSw; (try dsimp only at hSw); go_simp; first | done | with_reducible rfl)
      try simp only [Act.put, List.setIfInBounds_toArray, List.set_cons_zero, List.set_cons_succ]
      refine wpAnyH_take (i := 5) (oi := { dst := some 81, op := Go.Op.move (Go.Operand.tmp 80), type := 4, pos := "law.go:124", after := #[{ on := 4, ground := Go.Ground.data }, { on := 2, ground := Go.Ground.chain }, { on := 2, ground := Go.Ground.guard }], guard := some (2, false) }) (v := ?_) rfl (by kernel_rfl) (by kernel_rfl) (by kernel_rfl) (fun _ _ _ h => h) (Or.inl ⟨by rfl, ?_⟩) (by assumption) ?_
      rotate_left 1
      · (intro w hSw; (try dsimp only at hSw); go_simp; first | done | with_reducible rfl)
      try simp only [Act.put, List.setIfInBounds_toArray, List.set_cons_zero, List.set_cons_succ]
      refine wpAnyH_take (i := 6) (oi := { dst := some 82, op := Go.Op.move (Go.Operand.tmp 12), type := 39, pos := "law.go:124", after := #[{ on := 5, ground := Go.Ground.guard }], guard := some (5, true) }) (v := ?_) rfl (by kernel_rfl) (by kernel_rfl) (by kernel_rfl) (fun _ _ _ h => h) (Or.inl ⟨by rfl, ?_⟩) (by assumption) ?_
      rotate_left 1
      · (intro w hSw; (try dsimp only at hSw); go_simp; first | done | with_reducible rfl)
      try simp only [Act.put, List.setIfInBounds_toArray, List.set_cons_zero, List.set_cons_succ]
      refine wpAnyH_take (i := 7) (oi := { dst := some 83, op := Go.Op.call { callee := Go.Callee.builtin Go.Builtin.len, args := #[Go.Operand.tmp 82], argTypes := #[39] }, type := 3, pos := "law.go:124", after := #[{ on := 6, ground := Go.Ground.data }, { on := 5, ground := Go.Ground.guard }], guard := some (5, true) }) (v := ?_) rfl (by kernel_rfl) (by kernel_rfl) (by kernel_rfl) (fun _ _ _ h => h) (Or.inl ⟨by rfl, ?_⟩) (by assumption) ?_
      rotate_left 1
      · (intro w hSw; (try dsimp only at hSw); go_simp; first | done | with_reducible rfl)
      try simp only [Act.put, List.setIfInBounds_toArray, List.set_cons_zero, List.set_cons_succ]
      refine wpAnyH_take (i := 8) (oi := { dst := some 84, op := Go.Op.binOp Go.BinOp.eql 3 (Go.Operand.tmp 83) (Go.Operand.const (Go.Value.int Go.IntKind.i64 2)) 3, type := 4, pos := "law.go:124", after := #[{ on := 7, ground := Go.Ground.data }, { on := 5, ground := Go.Ground.guard }], guard := some (5, true) }) (v := ?_) rfl (by kernel_rfl) (by kernel_rfl) (by kernel_rfl) (fun _ _ _ h => h) (Or.inl ⟨by rfl, ?_⟩) (by assumption) ?_
      rotate_left 1
      · (intro w hSw; (try dsimp only at hSw); go_simp; first | done | with_reducible rfl)
      try simp only [Act.put, List.setIfInBounds_toArray, List.set_cons_zero, List.set_cons_succ]
      refine wpAnyH_take (i := 9) (oi := { dst := some 85, op := Go.Op.pick (Go.Operand.tmp 81) (Go.Operand.tmp 84) (Go.Operand.const (Go.Value.bool false)), type := 4, pos := "law.go:124", after := #[{ on := 5, ground := Go.Ground.data }, { on := 8, ground := Go.Ground.data }, { on := 2, ground := Go.Ground.guard }], guard := some (2, false) }) (v := ?_) rfl (by kernel_rfl) (by kernel_rfl) (by kernel_rfl) (fun _ _ _ h => h) (Or.inl ⟨by rfl, ?_⟩) (by assumption) ?_
      rotate_left 1
      · (intro w hSw; (try dsimp only at hSw); go_simp; first | done | with_reducible rfl)
      try simp only [Act.put, List.setIfInBounds_toArray, List.set_cons_zero, List.set_cons_succ]
      refine wpAnyH_take (i := 10) (oi := { dst := some 86, op := Go.Op.move (Go.Operand.tmp 85), type := 4, pos := "law.go:124", after := #[{ on := 9, ground := Go.Ground.data }, { on := 5, ground := Go.Ground.chain }, { on := 2, ground := Go.Ground.guard }], guard := some (2, false) }) (v := ?_) rfl (by kernel_rfl) (by kernel_rfl) (by kernel_rfl) (fun _ _ _ h => h) (Or.inl ⟨by rfl, ?_⟩) (by assumption) ?_
      rotate_left 1
      · (intro w hSw; (try dsimp only at hSw); go_simp; first | done | with_reducible rfl)
      try simp only [Act.put, List.setIfInBounds_toArray, List.set_cons_zero, List.set_cons_succ]
      refine wpAnyH_take (i := 11) (oi := { dst := some 87, op := Go.Op.move (Go.Operand.tmp 12), type := 39, pos := "law.go:124", after := #[{ on := 10, ground := Go.Ground.guard }], guard := some (10, true) }) (v := ?_) rfl (by kernel_rfl) (by kernel_rfl) (by kernel_rfl) (fun _ _ _ h => h) (Or.inl ⟨by rfl, ?_⟩) (by assumption) ?_
      rotate_left 1
      · (intro w hSw; (try dsimp only at hSw); go_simp; first | done | with_reducible rfl)
      try simp only [Act.put, List.setIfInBounds_toArray, List.set_cons_zero, List.set_cons_succ]
      refine wpAnyH_take (i := 12) (oi := { dst := some 88, op := Go.Op.indexAddr 39 (Go.Operand.tmp 87) (Go.Operand.const (Go.Value.int Go.IntKind.i64 0)), type := 0, pos := "law.go:124", after := #[{ on := 11, ground := Go.Ground.data }, { on := 10, ground := Go.Ground.guard }], guard := some (10, true) }) (v := ?_) rfl (by kernel_rfl) (by kernel_rfl) (by kernel_rfl) (fun _ _ _ h => h) (Or.inl ⟨by rfl, ?_⟩) (by assumption) ?_
      rotate_left 1
      · (intro w hSw; (try dsimp only at hSw); go_simp; first | done | with_reducible rfl)
      try simp only [Act.put, List.setIfInBounds_toArray, List.set_cons_zero, List.set_cons_succ]
      refine wpAnyH_take (i := 13) (oi := { dst := some 89, op := Go.Op.fieldAddr 38 (Go.Operand.tmp 88) 0, type := 0, pos := "law.go:124", after := #[{ on := 12, ground := Go.Ground.data }, { on := 10, ground := Go.Ground.guard }], guard := some (10, true) }) (v := ?_) rfl (by kernel_rfl) (by kernel_rfl) (by kernel_rfl) (fun _ _ _ h => h) (Or.inl ⟨by rfl, ?_⟩) (by assumption) ?_
      rotate_left 1
      · (intro w hSw; (try dsimp only at hSw); go_simp; first | done | with_reducible rfl)
      try simp only [Act.put, List.setIfInBounds_toArray, List.set_cons_zero, List.set_cons_succ]
      refine wpAnyH_take (i := 14) (oi := { dst := some 90, op := Go.Op.load 9 (Go.Operand.tmp 89), type := 9, pos := "law.go:124", after := #[{ on := 13, ground := Go.Ground.data }, { on := 10, ground := Go.Ground.guard }], guard := some (10, true) }) (v := ?_) rfl (by kernel_rfl) (by kernel_rfl) (by kernel_rfl) (fun _ _ _ h => h) (Or.inl ⟨by rfl, ?_⟩) (by assumption) ?_
      rotate_left 1
      · (intro w hSw; (try dsimp only at hSw); go_simp; first | done | with_reducible rfl)
      try simp only [Act.put, List.setIfInBounds_toArray, List.set_cons_zero, List.set_cons_succ]
      refine wpAnyH_take (i := 15) (oi := { dst := some 91, op := Go.Op.move (Go.Operand.tmp 1), type := 9, pos := "law.go:124", after := #[{ on := 10, ground := Go.Ground.guard }], guard := some (10, true) }) (v := ?_) rfl (by kernel_rfl) (by kernel_rfl) (by kernel_rfl) (fun _ _ _ h => h) (Or.inl ⟨by rfl, ?_⟩) (by assumption) ?_
      rotate_left 1
      · (intro w hSw; (try dsimp only at hSw); go_simp; first | done | with_reducible rfl)
      try simp only [Act.put, List.setIfInBounds_toArray, List.set_cons_zero, List.set_cons_succ]
      refine wpAnyH_take (i := 16) (oi := { dst := some 92, op := Go.Op.binOp Go.BinOp.eql 9 (Go.Operand.tmp 90) (Go.Operand.tmp 91) 9, type := 4, pos := "law.go:124", after := #[{ on := 14, ground := Go.Ground.data }, { on := 15, ground := Go.Ground.data }, { on := 10, ground := Go.Ground.guard }], guard := some (10, true) }) (v := ?_) rfl (by kernel_rfl) (by kernel_rfl) (by kernel_rfl) (fun _ _ _ h => h) (Or.inl ⟨by rfl, ?_⟩) (by assumption) ?_
      rotate_left 1
      · (intro w hSw; (try dsimp only at hSw); go_simp; first | done | with_reducible rfl)
      try simp only [Act.put, List.setIfInBounds_toArray, List.set_cons_zero, List.set_cons_succ]
      refine wpAnyH_take (i := 17) (oi := { dst := some 93, op := Go.Op.pick (Go.Operand.tmp 86) (Go.Operand.tmp 92) (Go.Operand.const (Go.Value.bool false)), type := 4, pos := "law.go:124", after := #[{ on := 10, ground := Go.Ground.data }, { on := 16, ground := Go.Ground.data }, { on := 2, ground := Go.Ground.guard }], guard := some (2, false) }) (v := ?_) rfl (by kernel_rfl) (by kernel_rfl) (by kernel_rfl) (fun _ _ _ h => h) (Or.inl ⟨by rfl, ?_⟩) (by assumption) ?_
      rotate_left 1
      · (intro w hSw; (try dsimp only at hSw); go_simp; first | done | with_reducible rfl)
      try simp only [Act.put, List.setIfInBounds_toArray, List.set_cons_zero, List.set_cons_succ]
      refine wpAnyH_take (i := 18) (oi := { dst := some 94, op := Go.Op.move (Go.Operand.tmp 93), type := 4, pos := "law.go:124", after := #[{ on := 17, ground := Go.Ground.data }, { on := 10, ground := Go.Ground.chain }, { on := 2, ground := Go.Ground.guard }], guard := some (2, false) }) (v := ?_) rfl (by kernel_rfl) (by kernel_rfl) (by kernel_rfl) (fun _ _ _ h => h) (Or.inl ⟨by rfl, ?_⟩) (by assumption) ?_
      rotate_left 1
      · (intro w hSw; (try dsimp only at hSw); go_simp; first | done | with_reducible rfl)
      try simp only [Act.put, List.setIfInBounds_toArray, List.set_cons_zero, List.set_cons_succ]
      refine wpAnyH_take (i := 19) (oi := { dst := some 95, op := Go.Op.move (Go.Operand.tmp 12), type := 39, pos := "law.go:124", after := #[{ on := 18, ground := Go.Ground.guard }], guard := some (18, true) }) (v := ?_) rfl (by kernel_rfl) (by kernel_rfl) (by kernel_rfl) (fun _ _ _ h => h) (Or.inl ⟨by rfl, ?_⟩) (by assumption) ?_
      rotate_left 1
      · (intro w hSw; (try dsimp only at hSw); go_simp; first | done | with_reducible rfl)
      try simp only [Act.put, List.setIfInBounds_toArray, List.set_cons_zero, List.set_cons_succ]
      refine wpAnyH_take (i := 20) (oi := { dst := some 96, op := Go.Op.indexAddr 39 (Go.Operand.tmp 95) (Go.Operand.const (Go.Value.int Go.IntKind.i64 1)), type := 0, pos := "law.go:124", after := #[{ on := 19, ground := Go.Ground.data }, { on := 18, ground := Go.Ground.guard }], guard := some (18, true) }) (v := ?_) rfl (by kernel_rfl) (by kernel_rfl) (by kernel_rfl) (fun _ _ _ h => h) (Or.inl ⟨by rfl, ?_⟩) (by assumption) ?_
      rotate_left 1
      · (intro w hSw; (try dsimp only at hSw); go_simp; first | done | with_reducible rfl)
      try simp only [Act.put, List.setIfInBounds_toArray, List.set_cons_zero, List.set_cons_succ]
      refine wpAnyH_take (i := 21) (oi := { dst := some 97, op := Go.Op.fieldAddr 38 (Go.Operand.tmp 96) 0, type := 0, pos := "law.go:124", after := #[{ on := 20, ground := Go.Ground.data }, { on := 18, ground := Go.Ground.guard }], guard := some (18, true) }) (v := ?_) rfl (by kernel_rfl) (by kernel_rfl) (by kernel_rfl) (fun _ _ _ h => h) (Or.inl ⟨by rfl, ?_⟩) (by assumption) ?_
      rotate_left 1
      · (intro w hSw; (try dsimp only at hSw); go_simp; first | done | with_reducible rfl)
      try simp only [Act.put, List.setIfInBounds_toArray, List.set_cons_zero, List.set_cons_succ]
      refine wpAnyH_take (i := 22) (oi := { dst := some 98, op := Go.Op.load 9 (Go.Operand.tmp 97), type := 9, pos := "law.go:124", after := #[{ on := 21, ground := Go.Ground.data }, { on := 18, ground := Go.Ground.guard }], guard := some (18, true) }) (v := ?_) rfl (by kernel_rfl) (by kernel_rfl) (by kernel_rfl) (fun _ _ _ h => h) (Or.inl ⟨by rfl, ?_⟩) (by assumption) ?_
      rotate_left 1
      · (intro w hSw; (try dsimp only at hSw); go_simp; first | done | with_reducible rfl)
      try simp only [Act.put, List.setIfInBounds_toArray, List.set_cons_zero, List.set_cons_succ]
      refine wpAnyH_take (i := 23) (oi := { dst := some 99, op := Go.Op.move (Go.Operand.tmp 2), type := 9, pos := "law.go:124", after := #[{ on := 18, ground := Go.Ground.guard }], guard := some (18, true) }) (v := ?_) rfl (by kernel_rfl) (by kernel_rfl) (by kernel_rfl) (fun _ _ _ h => h) (Or.inl ⟨by rfl, ?_⟩) (by assumption) ?_
      rotate_left 1
      · (intro w hSw; (try dsimp only at hSw); go_simp; first | done | with_reducible rfl)
      try simp only [Act.put, List.setIfInBounds_toArray, List.set_cons_zero, List.set_cons_succ]
      refine wpAnyH_take (i := 24) (oi := { dst := some 100, op := Go.Op.binOp Go.BinOp.eql 9 (Go.Operand.tmp 98) (Go.Operand.tmp 99) 9, type := 4, pos := "law.go:124", after := #[{ on := 22, ground := Go.Ground.data }, { on := 23, ground := Go.Ground.data }, { on := 18, ground := Go.Ground.guard }], guard := some (18, true) }) (v := ?_) rfl (by kernel_rfl) (by kernel_rfl) (by kernel_rfl) (fun _ _ _ h => h) (Or.inl ⟨by rfl, ?_⟩) (by assumption) ?_
      rotate_left 1
      · (intro w hSw; (try dsimp only at hSw); go_simp; first | done | with_reducible rfl)
      try simp only [Act.put, List.setIfInBounds_toArray, List.set_cons_zero, List.set_cons_succ]
      refine wpAnyH_take (i := 25) (oi := { dst := some 101, op := Go.Op.pick (Go.Operand.tmp 94) (Go.Operand.tmp 100) (Go.Operand.const (Go.Value.bool false)), type := 4, pos := "law.go:124", after := #[{ on := 18, ground := Go.Ground.data }, { on := 24, ground := Go.Ground.data }, { on := 2, ground := Go.Ground.guard }], guard := some (2, false) }) (v := ?_) rfl (by kernel_rfl) (by kernel_rfl) (by kernel_rfl) (fun _ _ _ h => h) (Or.inl ⟨by rfl, ?_⟩) (by assumption) ?_
      rotate_left 1
      · (intro w hSw; (try dsimp only at hSw); go_simp; first | done | with_reducible rfl)
      try simp only [Act.put, List.setIfInBounds_toArray, List.set_cons_zero, List.set_cons_succ]
      refine wpAnyH_take (i := 26) (oi := { dst := some 102, op := Go.Op.move (Go.Operand.tmp 101), type := 4, pos := "law.go:124", after := #[{ on := 25, ground := Go.Ground.data }, { on := 18, ground := Go.Ground.chain }, { on := 2, ground := Go.Ground.guard }], guard := some (2, false) }) (v := ?_) rfl (by kernel_rfl) (by kernel_rfl) (by kernel_rfl) (fun _ _ _ h => h) (Or.inl ⟨by rfl, ?_⟩) (by assumption) ?_
      rotate_left 1
      · (intro w hSw; (try dsimp only at hSw); go_simp; first | done | with_reducible rfl)
      try simp only [Act.put, List.setIfInBounds_toArray, List.set_cons_zero, List.set_cons_succ]
      refine wpAnyH_take (i := 27) (oi := { dst := some 103, op := Go.Op.move (Go.Operand.tmp 12), type := 39, pos := "law.go:124", after := #[{ on := 26, ground := Go.Ground.guard }], guard := some (26, true) }) (v := ?_) rfl (by kernel_rfl) (by kernel_rfl) (by kernel_rfl) (fun _ _ _ h => h) (Or.inl ⟨by rfl, ?_⟩) (by assumption) ?_
      rotate_left 1
      · (intro w hSw; (try dsimp only at hSw); go_simp; first | done | with_reducible rfl)
      try simp only [Act.put, List.setIfInBounds_toArray, List.set_cons_zero, List.set_cons_succ]
      refine wpAnyH_take (i := 28) (oi := { dst := some 104, op := Go.Op.indexAddr 39 (Go.Operand.tmp 103) (Go.Operand.const (Go.Value.int Go.IntKind.i64 0)), type := 0, pos := "law.go:124", after := #[{ on := 27, ground := Go.Ground.data }, { on := 26, ground := Go.Ground.guard }], guard := some (26, true) }) (v := ?_) rfl (by kernel_rfl) (by kernel_rfl) (by kernel_rfl) (fun _ _ _ h => h) (Or.inl ⟨by rfl, ?_⟩) (by assumption) ?_
      rotate_left 1
      · (intro w hSw; (try dsimp only at hSw); go_simp; first | done | with_reducible rfl)
      try simp only [Act.put, List.setIfInBounds_toArray, List.set_cons_zero, List.set_cons_succ]
      refine wpAnyH_take (i := 29) (oi := { dst := some 105, op := Go.Op.fieldAddr 38 (Go.Operand.tmp 104) 1, type := 0, pos := "law.go:124", after := #[{ on := 28, ground := Go.Ground.data }, { on := 26, ground := Go.Ground.guard }], guard := some (26, true) }) (v := ?_) rfl (by kernel_rfl) (by kernel_rfl) (by kernel_rfl) (fun _ _ _ h => h) (Or.inl ⟨by rfl, ?_⟩) (by assumption) ?_
      rotate_left 1
      · (intro w hSw; (try dsimp only at hSw); go_simp; first | done | with_reducible rfl)
      try simp only [Act.put, List.setIfInBounds_toArray, List.set_cons_zero, List.set_cons_succ]
      refine wpAnyH_take (i := 30) (oi := { dst := some 106, op := Go.Op.load 27 (Go.Operand.tmp 105), type := 27, pos := "law.go:124", after := #[{ on := 29, ground := Go.Ground.data }, { on := 26, ground := Go.Ground.guard }], guard := some (26, true) }) (v := ?_) rfl (by kernel_rfl) (by kernel_rfl) (by kernel_rfl) (fun _ _ _ h => h) (Or.inl ⟨by rfl, ?_⟩) (by assumption) ?_
      rotate_left 1
      · (intro w hSw; (try dsimp only at hSw); go_simp; first | done | with_reducible rfl)
      try simp only [Act.put, List.setIfInBounds_toArray, List.set_cons_zero, List.set_cons_succ]
      refine wpAnyH_take (i := 31) (oi := { dst := some 107, op := Go.Op.load 27 (Go.Operand.tmp 3), type := 27, pos := "law.go:124", after := #[{ on := 26, ground := Go.Ground.guard }], guard := some (26, true) }) (v := ?_) rfl (by kernel_rfl) (by kernel_rfl) (by kernel_rfl) (fun _ _ _ h => h) (Or.inl ⟨by rfl, ?_⟩) (by assumption) ?_
      rotate_left 1
      · (intro w hSw; (try dsimp only at hSw); go_simp; first | done | with_reducible rfl)
      try simp only [Act.put, List.setIfInBounds_toArray, List.set_cons_zero, List.set_cons_succ]
      refine wpAnyH_ready (rs := [32]) (by kernel_rfl) (by simp) ?_
      refine AllReadyH.cons (o := { dst := some 108, op := Go.Op.call { callee := Go.Callee.value (Go.Operand.func 12), args := #[Go.Operand.tmp 106, Go.Operand.tmp 107], argTypes := #[27, 27] }, type := 4, pos := "law.go:124", after := #[{ on := 30, ground := Go.Ground.data }, { on := 31, ground := Go.Ground.data }, { on := 26, ground := Go.Ground.chain }, { on := 26, ground := Go.Ground.guard }], guard := some (26, true) }) rfl (fun K hK => ?_) AllReadyH.nil
      go_simp
      (go_at_call 12; refine (HS.out.2.1 _ (And.left hHeld)).mono ?_; rintro e w4 ⟨rfl, q⟩)
      refine hK.out _ _ ?_ (fun hHeld' => ?_)
      · exact HS.out.1 _ (Keep.trans (And.left hHeld) q)
      clear hK K hHeld
      have hHeld := hHeld'
      clear hHeld'
      try simp only [Act.put, List.setIfInBounds_toArray, List.set_cons_zero, List.set_cons_succ]
      refine wpAnyH_take (i := 33) (oi := { dst := some 109, op := Go.Op.pick (Go.Operand.tmp 102) (Go.Operand.tmp 108) (Go.Operand.const (Go.Value.bool false)), type := 4, pos := "law.go:124", after := #[{ on := 26, ground := Go.Ground.data }, { on := 32, ground := Go.Ground.data }, { on := 2, ground := Go.Ground.guard }], guard := some (2, false) }) (v := ?_) rfl (by kernel_rfl) (by kernel_rfl) (by kernel_rfl) (fun _ _ _ h => h) (Or.inl ⟨by rfl, ?_⟩) (by assumption) ?_
      rotate_left 1
      · (intro w hSw; (try dsimp only at hSw); go_simp; first | done | with_reducible rfl)
      try simp only [Act.put, List.setIfInBounds_toArray, List.set_cons_zero, List.set_cons_succ]
      refine wpAnyH_take (i := 34) (oi := { dst := some 110, op := Go.Op.move (Go.Operand.tmp 109), type := 4, pos := "law.go:124", after := #[{ on := 33, ground := Go.Ground.data }, { on := 32, ground := Go.Ground.chain }, { on := 2, ground := Go.Ground.guard }], guard := some (2, false) }) (v := ?_) rfl (by kernel_rfl) (by kernel_rfl) (by kernel_rfl) (fun _ _ _ h => h) (Or.inl ⟨by rfl, ?_⟩) (by assumption) ?_
      rotate_left 1
      · (intro w hSw; (try dsimp only at hSw); go_simp; first | done | with_reducible rfl)
      try simp only [Act.put, List.setIfInBounds_toArray, List.set_cons_zero, List.set_cons_succ]
      refine wpAnyH_take (i := 35) (oi := { dst := some 111, op := Go.Op.move (Go.Operand.tmp 12), type := 39, pos := "law.go:124", after := #[{ on := 34, ground := Go.Ground.guard }], guard := some (34, true) }) (v := ?_) rfl (by kernel_rfl) (by kernel_rfl) (by kernel_rfl) (fun _ _ _ h => h) (Or.inl ⟨by rfl, ?_⟩) (by assumption) ?_
      rotate_left 1
      · (intro w hSw; (try dsimp only at hSw); go_simp; first | done | with_reducible rfl)
      try simp only [Act.put, List.setIfInBounds_toArray, List.set_cons_zero, List.set_cons_succ]
      refine wpAnyH_take (i := 36) (oi := { dst := some 112, op := Go.Op.indexAddr 39 (Go.Operand.tmp 111) (Go.Operand.const (Go.Value.int Go.IntKind.i64 1)), type := 0, pos := "law.go:124", after := #[{ on := 35, ground := Go.Ground.data }, { on := 34, ground := Go.Ground.guard }], guard := some (34, true) }) (v := ?_) rfl (by kernel_rfl) (by kernel_rfl) (by kernel_rfl) (fun _ _ _ h => h) (Or.inl ⟨by rfl, ?_⟩) (by assumption) ?_
      rotate_left 1
      · (intro w hSw; (try dsimp only at hSw); go_simp; first | done | with_reducible rfl)
      try simp only [Act.put, List.setIfInBounds_toArray, List.set_cons_zero, List.set_cons_succ]
      refine wpAnyH_take (i := 37) (oi := { dst := some 113, op := Go.Op.fieldAddr 38 (Go.Operand.tmp 112) 1, type := 0, pos := "law.go:124", after := #[{ on := 36, ground := Go.Ground.data }, { on := 34, ground := Go.Ground.guard }], guard := some (34, true) }) (v := ?_) rfl (by kernel_rfl) (by kernel_rfl) (by kernel_rfl) (fun _ _ _ h => h) (Or.inl ⟨by rfl, ?_⟩) (by assumption) ?_
      rotate_left 1
      · (intro w hSw; (try dsimp only at hSw); go_simp; first | done | with_reducible rfl)
      try simp only [Act.put, List.setIfInBounds_toArray, List.set_cons_zero, List.set_cons_succ]
      refine wpAnyH_take (i := 38) (oi := { dst := some 114, op := Go.Op.load 27 (Go.Operand.tmp 113), type := 27, pos := "law.go:124", after := #[{ on := 37, ground := Go.Ground.data }, { on := 34, ground := Go.Ground.guard }], guard := some (34, true) }) (v := ?_) rfl (by kernel_rfl) (by kernel_rfl) (by kernel_rfl) (fun _ _ _ h => h) (Or.inl ⟨by rfl, ?_⟩) (by assumption) ?_
      rotate_left 1
      · (intro w hSw; (try dsimp only at hSw); go_simp; first | done | with_reducible rfl)
      try simp only [Act.put, List.setIfInBounds_toArray, List.set_cons_zero, List.set_cons_succ]
      refine wpAnyH_take (i := 39) (oi := { dst := some 115, op := Go.Op.load 27 (Go.Operand.tmp 3), type := 27, pos := "law.go:124", after := #[{ on := 34, ground := Go.Ground.guard }], guard := some (34, true) }) (v := ?_) rfl (by kernel_rfl) (by kernel_rfl) (by kernel_rfl) (fun _ _ _ h => h) (Or.inl ⟨by rfl, ?_⟩) (by assumption) ?_
      rotate_left 1
      · (intro w hSw; (try dsimp only at hSw); go_simp; first | done | with_reducible rfl)
      try simp only [Act.put, List.setIfInBounds_toArray, List.set_cons_zero, List.set_cons_succ]
      refine wpAnyH_ready (rs := [40]) (by kernel_rfl) (by simp) ?_
      refine AllReadyH.cons (o := { dst := some 116, op := Go.Op.call { callee := Go.Callee.value (Go.Operand.func 12), args := #[Go.Operand.tmp 114, Go.Operand.tmp 115], argTypes := #[27, 27] }, type := 4, pos := "law.go:124", after := #[{ on := 38, ground := Go.Ground.data }, { on := 39, ground := Go.Ground.data }, { on := 34, ground := Go.Ground.chain }, { on := 34, ground := Go.Ground.guard }], guard := some (34, true) }) rfl (fun K hK => ?_) AllReadyH.nil
      go_simp
      (go_at_call 12; refine (HS.out.2.2 _ (And.left hHeld)).mono ?_; rintro e w4 ⟨rfl, q⟩)
      refine hK.out _ _ ?_ (fun hHeld' => ?_)
      · exact HS.out.1 _ (Keep.trans (And.left hHeld) q)
      clear hK K hHeld
      have hHeld := hHeld'
      clear hHeld'
      try simp only [Act.put, List.setIfInBounds_toArray, List.set_cons_zero, List.set_cons_succ]
      refine wpAnyH_take (i := 41) (oi := { dst := some 117, op := Go.Op.pick (Go.Operand.tmp 110) (Go.Operand.tmp 116) (Go.Operand.const (Go.Value.bool false)), type := 4, pos := "law.go:124", after := #[{ on := 34, ground := Go.Ground.data }, { on := 40, ground := Go.Ground.data }, { on := 2, ground := Go.Ground.guard }], guard := some (2, false) }) (v := ?_) rfl (by kernel_rfl) (by kernel_rfl) (by kernel_rfl) (fun _ _ _ h => h) (Or.inl ⟨by rfl, ?_⟩) (by assumption) ?_
      rotate_left 1
      · (intro w hSw; (try dsimp only at hSw); go_simp; first | done | with_reducible rfl)
      try simp only [Act.put, List.setIfInBounds_toArray, List.set_cons_zero, List.set_cons_succ]
      refine wpAnyH_take (i := 42) (oi := { dst := some 118, op := Go.Op.pick (Go.Operand.tmp 78) (Go.Operand.const (Go.Value.bool true)) (Go.Operand.tmp 117), type := 4, pos := "law.go:124", after := #[{ on := 2, ground := Go.Ground.data }, { on := 41, ground := Go.Ground.data }], guard := none }) (v := ?_) rfl (by kernel_rfl) (by kernel_rfl) (by kernel_rfl) (fun _ _ _ h => h) (Or.inl ⟨by rfl, ?_⟩) (by assumption) ?_
      rotate_left 1
      · (intro w hSw; (try dsimp only at hSw); go_simp; first | done | with_reducible rfl)
      try simp only [Act.put, List.setIfInBounds_toArray, List.set_cons_zero, List.set_cons_succ]
      refine wpAnyH_take (i := 43) (oi := { dst := some 6, op := Go.Op.assign (Go.Operand.tmp 118), type := 4, pos := "law.go:124", after := #[{ on := 42, ground := Go.Ground.data }, { on := 40, ground := Go.Ground.chain }, { on := 0, ground := Go.Ground.phase }, { on := 1, ground := Go.Ground.phase }, { on := 2, ground := Go.Ground.phase }, { on := 3, ground := Go.Ground.phase }, { on := 4, ground := Go.Ground.phase }, { on := 5, ground := Go.Ground.phase }, { on := 6, ground := Go.Ground.phase }, { on := 7, ground := Go.Ground.phase }, { on := 8, ground := Go.Ground.phase }, { on := 9, ground := Go.Ground.phase }, { on := 10, ground := Go.Ground.phase }, { on := 11, ground := Go.Ground.phase }, { on := 12, ground := Go.Ground.phase }, { on := 13, ground := Go.Ground.phase }, { on := 14, ground := Go.Ground.phase }, { on := 15, ground := Go.Ground.phase }, { on := 16, ground := Go.Ground.phase }, { on := 17, ground := Go.Ground.phase }, { on := 18, ground := Go.Ground.phase }, { on := 19, ground := Go.Ground.phase }, { on := 20, ground := Go.Ground.phase }, { on := 21, ground := Go.Ground.phase }, { on := 22, ground := Go.Ground.phase }, { on := 23, ground := Go.Ground.phase }, { on := 24, ground := Go.Ground.phase }, { on := 25, ground := Go.Ground.phase }, { on := 26, ground := Go.Ground.phase }, { on := 27, ground := Go.Ground.phase }, { on := 28, ground := Go.Ground.phase }, { on := 29, ground := Go.Ground.phase }, { on := 30, ground := Go.Ground.phase }, { on := 31, ground := Go.Ground.phase }, { on := 32, ground := Go.Ground.phase }, { on := 33, ground := Go.Ground.phase }, { on := 34, ground := Go.Ground.phase }, { on := 35, ground := Go.Ground.phase }, { on := 36, ground := Go.Ground.phase }, { on := 37, ground := Go.Ground.phase }, { on := 38, ground := Go.Ground.phase }, { on := 39, ground := Go.Ground.phase }, { on := 40, ground := Go.Ground.phase }, { on := 41, ground := Go.Ground.phase }, { on := 42, ground := Go.Ground.phase }], guard := none }) (v := ?_) rfl (by kernel_rfl) (by kernel_rfl) (by kernel_rfl) (fun _ _ _ h => h) (Or.inl ⟨by rfl, ?_⟩) (by assumption) ?_
      rotate_left 1
      · (intro w hSw; (try dsimp only at hSw); go_simp; first | done | with_reducible rfl)
      try simp only [Act.put, List.setIfInBounds_toArray, List.set_cons_zero, List.set_cons_succ]
      refine wpAnyH_done (by kernel_rfl) ?_ _
      refine NoPanic.normal ?_
      have HK := Lib.hid (H7.out.1.trans hHeld.1)
      clear hHeld
      go_wp2_with fail
      go_ret
      exact ⟨rfl, HK.out⟩
end Go.Proofs.YtmeiboaagkoadaaGreatDoor.P08
