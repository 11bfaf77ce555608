/- The code's size and wide (layer 9). -/
import Derived.Test.YthcjfgfbeollpaaKE32
import Derived.Test.YthcjfgfbeollpaaKE29
import Derived.Test.YthcjfgfbeollpaaKE28
import Derived.Test.YthcjfgfbeollpaaKE04
import Derived.Test.YthcjfgfbeollpaaKE31
import Derived.Test.YthcjfgfbeollpaaKE30
namespace Go.Proofs.Ythcjfgfbeollpaa.P09
open Go.RowKit Go.Proofs.Ythcjfgfbeollpaa.Base Go.Proofs.Ythcjfgfbeollpaa.Bytes Go.Proofs.Ythcjfgfbeollpaa.P07 Go.Proofs.Ythcjfgfbeollpaa.P08
open Go.Proofs.Ythcjfgfbeollpaa.Sets (ST)

/-- The k-th part, at its address. -/
theorem sub_ad {w : World} {a : Option Addr} {L : List T} (h : Lie w (fun _ => True) a L) {i : Nat} {s : T} (hs : L[i]? = some s) :
    ∃ bl off a1 e1, a = some ⟨bl, off, none⟩ ∧ Lie w (fun _ => True) a1 s.subs ∧ NodeP w bl (off + i * 8) s a1 e1 := by
  obtain ⟨bl, off, a1, e1, rfl, -, hbl, -, L1, C1⟩ := h.get hs
  exact ⟨bl, off, a1, e1, rfl, L1, ⟨hbl, C1⟩⟩

def WideOk (t : T) : Prop := ∀ (d : Nat), RT d t → ∀ (bl o : Nat) (a : Option Addr) (c : Nat) (w : World), NodeP w bl o t a c → Lie w (fun _ => True) a t.subs →
    Calls Try.prog 76 #[.pointer (some ⟨bl, o, none⟩)] w fun e w' => e = .returned (.int .i64 (wd t)) ∧ Keep (fun _ => False) w w'
set_option maxRecDepth 100000 in
set_option maxHeartbeats 4000000 in
theorem cwide_low (n : Nat) (ih : ∀ t : T, SizeOf.sizeOf t < n → WideOk t) (t : T) (h : SizeOf.sizeOf t < n + 1) (hk5 : ¬ t.kind = 5) : WideOk t := fun d hR bl o a c w hP hL => by
    have hlen := hL.len
    have H0 := Lib.hid (And.intro hP (And.intro hL ih))
    have e := wd_eq t
    obtain ⟨A, hA⟩ : ∃ A, wd t = A := ⟨_, rfl⟩
    rw [hA] at e ⊢
    obtain ⟨m0, m1, x0, x1⟩ := times_bare hR
    have hpre := fun i => wdL_bnd (t.subs.take i) d t.kind (RL_take t.subs i hR.subs) t.mn t.mx m0 x0 1 (by omega) (by omega)
    have hsub := fun (s : T) (i : Nat) (h : t.subs[i]? = some s) => sub_RT hR h
    have b5 : (t.kind == 5) = false := by simp [hk5]
    have hws : ∀ W, wstep t.kind t.mn t.mx W = W := fun W => by
      unfold wstep
      rw [if_neg (by omega), if_neg hk5]
    have HE := Lib.hid (And.intro e (And.intro hsub (And.intro hpre hws)))
    have HN := Lib.hid h
    obtain ⟨c0, -, -, -, -, -, -, c7⟩ := hP.eight
    clear hL hP e hA h hR hpre hsub hws m0 m1 x0 x1 hk5
    go_enter Try.func76, Try.ntmps76
    go_wp2_with fail
    clear c0 c7
    go_loopg [3, 4, 31] t.subs.length (fun gg m s4 i wr => ∃ (k : Nat) (M : Int), i = .int .i64 k ∧ k + gg = t.subs.length ∧ m = .int .i64 M ∧ M = wdL t.kind t.mn t.mx 1 (t.subs.take k) ∧ Keep (fun _ => False) w wr)
    case atStart => exact ⟨0, 1, rfl, by omega, rfl, by rw [List.take_zero, wdL], Keep.refl _ _⟩
    case round =>
      obtain ⟨k, M, rfl, hk, rfl, hM, hq⟩ := hrel
      obtain ⟨-, -, -, -, -, -, -, c7⟩ := (H0.out.1.keepF hq).eight
      by_cases hlt : k < t.subs.length
      · have hlt' : (k : Int) < t.subs.length := by omega
        have i0 : (0 : Int) ≤ k := by omega
        obtain ⟨s, hs⟩ : ∃ s, t.subs[k]? = some s := ⟨t.subs[k], List.getElem?_eq_getElem hlt⟩
        obtain ⟨b2, off, a1, e1, rfl, L1, N1⟩ := sub_ad H0.out.2.1 hs
        have hsl := sub_less hs
        have ht := wdL_take (k := t.kind) (mn := t.mn) (mx := t.mx) (acc := 1) hs
        rw [HE.out.2.2.2, ← hM] at ht
        have hRs := HE.out.2.1 s k hs
        have hb := wd_bnd s d hRs
        have hMb := HE.out.2.2.1 k
        rw [← hM] at hMb
        have hcall := H0.out.2.2 s (by have := HN.out; omega) d hRs b2 (off + k * 8) a1 e1 wr (N1.keepF hq) (L1.keepF hq)
        obtain ⟨Y, hY⟩ : ∃ Y, wd s = Y := ⟨_, rfl⟩
        rw [hY] at hcall ht hb
        have HQ := Lib.hid (And.intro hq (And.intro hcall ht))
        clear hq hcall ht hM hs hY L1 N1 hRs
        go_wp2_with fail
        refine HQ.out.2.1.mono ?_
        rintro e w2 ⟨rfl, q2⟩
        have Q2 := Lib.hid (HQ.out.1.trans q2)
        clear q2 c7
        go_wp2_with fail
        go_roundg (t.subs.length - (k + 1))
        case measure => omega
        case rel => exact ⟨k + 1, min (M + Y) 1073741824, by go_num, by omega, by go_num, HQ.out.2.2.symm, Q2.out⟩
      · have hke : k = t.subs.length := by omega
        subst hke
        rw [List.take_length] at hM
        have HQ := Lib.hid (And.intro hq hM)
        clear hq hM
        go_wp2_with fail
        go_ret
        exact ⟨by rw [HE.out.1, HQ.out.2]; rfl, HQ.out.1⟩
set_option maxRecDepth 100000 in
set_option maxHeartbeats 4000000 in
theorem cwide_five (n : Nat) (ih : ∀ t : T, SizeOf.sizeOf t < n → WideOk t) (t : T) (h : SizeOf.sizeOf t < n + 1) (hk : t.kind = 5) : WideOk t := fun d hR bl o a c w hP hL => by
    obtain ⟨s, hsub, m0, m1, hxx, hra⟩ := kind5_one hR hk
    have hs : t.subs[0]? = some s := by rw [hsub]; rfl
    have hl1 : t.subs.length = 1 := by rw [hsub]; rfl
    have hRs := sub_RT hR hs
    have hb := wd_bnd s d hRs
    have e : wd t = min (1 + wstep 5 t.mn t.mx (wd s)) 1073741824 := by rw [wd_eq, hsub, hk, wdL, wdL]
    have hsl := sub_less hs
    obtain ⟨b2, off, a1, e1, ha, L1, N1⟩ := sub_ad hL hs
    rw [Nat.zero_mul, Nat.add_zero] at N1
    have hcall := fun W' (hq : Keep (fun _ => False) w W') => ih s (by omega) d hRs b2 off a1 e1 W' (N1.keepF hq) (L1.keepF hq)
    have hwt : ∀ W', Calls Try.prog 95 #[.int .i64 (wd s), .int .i64 t.mn, .int .i64 t.mx] W' fun e w' => e = .returned (.int .i64 (1 + wstep 5 t.mn t.mx (wd s))) ∧ Keep (fun _ => False) W' w' := fun W' => (wtimes_is hb.1 hb.2 m0 m1 (show t.mx = -1 ∨ 0 ≤ t.mx by omega) (by omega) rfl W').mono fun e w' h => ⟨h.1, by rw [← h.2]; exact Keep.refl _ _⟩
    obtain ⟨Y, hY⟩ : ∃ Y, wd s = Y := ⟨_, rfl⟩
    rw [hY] at hcall hwt e
    obtain ⟨Z, hZ⟩ : ∃ Z, 1 + wstep 5 t.mn t.mx Y = Z := ⟨_, rfl⟩
    rw [hZ] at hwt e
    rw [e]
    have b5 : (t.kind == 5) = true := by simp [hk]
    have H0 := Lib.hid (And.intro hP (And.intro hcall hwt))
    have hS : ∀ w', Keep (fun _ => False) w w' → Keep (fun _ => False) w w' ∧ w'.cell? ⟨bl, o + 5, none⟩ = some (.int .i64 t.mn) ∧ w'.cell? ⟨bl, o + 6, none⟩ = some (.int .i64 t.mx) ∧ w'.cell? ⟨bl, o + 7, none⟩ = some (.slice a t.subs.length c) := fun w' q' => by
      obtain ⟨-, -, -, -, -, c5, c6, c7⟩ := (hP.keepF q').eight
      exact ⟨q', c5, c6, c7⟩
    subst ha
    rw [hl1] at hS
    have HS := Lib.hid hS
    obtain ⟨c0, -, -, -, -, c5, c6, c7⟩ := hP.eight
    rw [hl1] at c7
    clear hcall hwt hY hZ e L1 N1 hRs hb hsub hs m0 m1 hxx hra hk hR hP hL h ih hsl hS
    go_enter Try.func76, Try.ntmps76
    go_wp2_with fail
    go_region_held3 (fun w' => Keep (fun _ => False) w w' ∧ w'.cell? ⟨bl, o + 5, none⟩ = some (.int .i64 t.mn) ∧ w'.cell? ⟨bl, o + 6, none⟩ = some (.int .i64 t.mx) ∧ w'.cell? ⟨bl, o + 7, none⟩ = some (.slice (some ⟨b2, off, none⟩) 1 c)) (first | assumption | exact HS.out _ ((Keep.refl _ _).drew) | exact HS.out _ (Keep.trans (And.left (by assumption)) q)) (first
      | (go_at_call 76; refine (H0.out.2.1 _ (And.left (by assumption))).mono ?_; rintro e w4 ⟨rfl, q⟩)
      | (go_at_call 95; refine (H0.out.2.2 _).mono ?_; rintro e w5 ⟨rfl, q⟩))
    all_goals
      rename_i hh
      have HK := Lib.hid hh.1
      clear hh
      go_wp2_with fail
      go_ret
      exact ⟨rfl, HK.out⟩
theorem cwide_all : ∀ (n : Nat) (t : T), SizeOf.sizeOf t < n → WideOk t
  | 0, _, h => absurd h (Nat.not_lt_zero _)
  | n + 1, t, h => by
    by_cases hk : t.kind = 5
    · exact cwide_five n (cwide_all n) t h hk
    · exact cwide_low n (cwide_all n) t h hk
end Go.Proofs.Ythcjfgfbeollpaa.P09
/- The code's right and Right (layer 8). -/
namespace Go.Proofs.Ythcjfgfbeollpaa.P08
open Go.RowKit Go.Proofs.Ythcjfgfbeollpaa.Base Go.Proofs.Ythcjfgfbeollpaa.Bytes Go.Proofs.Ythcjfgfbeollpaa.P07
open Go.Proofs.Ythcjfgfbeollpaa.Sets (ST)

set_option maxRecDepth 100000 in
set_option maxHeartbeats 4000000 in
theorem cright_step (n : Nat) (ih : ∀ (t : T), SizeOf.sizeOf t < n → ∀ (d : Nat) (op : Int), 0 ≤ op → op + d = 13 → ∀ (bl o : Nat) (a : Option Addr) (c : Nat) (w : World), NodeP w bl o t a c → Lie w (fun _ => True) a t.subs → Calls Try.prog 75 #[.pointer (some ⟨bl, o, none⟩), .int .i64 op] w fun e w' => e = .returned (.bool (rgt d t)) ∧ Keep (fun _ => False) w w')
    (t : T) (hn : SizeOf.sizeOf t < n + 1) (d : Nat) (op : Int) (ho : 0 ≤ op) (hop : op + d = 13) (bl o : Nat) (a : Option Addr) (c : Nat) (w : World) (hP : NodeP w bl o t a c) (hL : Lie w (fun _ => True) a t.subs) :
    Calls Try.prog 75 #[.pointer (some ⟨bl, o, none⟩), .int .i64 op] w fun e w' => e = .returned (.bool (rgt d t)) ∧ Keep (fun _ => False) w w' := by
  have hlen := hL.len
  match d, hop with
  | 0, hop =>
    have h1 : 12 < op := by omega
    rw [rgt_zero]
    clear ih hP hL hlen hop hn
    go_enter Try.func75, Try.ntmps75
    go_wp2_with fail
    go_ret
    exact ⟨rfl, Keep.refl _ _⟩
  | d + 1, hop =>
    have h1 : ¬ 12 < op := by omega
    obtain ⟨B, hB⟩ : ∃ B, bareB t = B := ⟨_, rfl⟩
    obtain ⟨D, hD⟩ : ∃ D, rgtL d t.kind t.subs = D := ⟨_, rfl⟩
    rw [rgt_succ, hB, hD]
    have hF := fields_any t bl o a c w hP
    rw [hB] at hF
    have H0 := Lib.hid (And.intro hP (And.intro hL (And.intro ih (And.intro hD hF))))
    clear hP hL ih hD hF hB
    go_enter Try.func75, Try.ntmps75
    go_wp2_with fail
    refine H0.out.2.2.2.2.mono ?_
    rintro e w1 ⟨rfl, q1⟩
    have Q1 := Lib.hid q1
    cases B with
    | false =>
      clear q1
      go_wp2_with fail
      go_ret
      exact ⟨rfl, Q1.out⟩
    | true =>
      have hP1 := H0.out.1.keepF q1
      obtain ⟨c0, -, -, -, -, -, -, c7⟩ := hP1.eight
      have HP1 := Lib.hid hP1
      clear q1 hP1
      go_wp2_with fail
      clear c0 c7
      go_loopg [5, 6, 19] t.subs.length (fun gg s5 s6 i wr => ∃ k : Nat, i = .int .i64 k ∧ k + gg = t.subs.length ∧ rgtL d t.kind (t.subs.take k) = true ∧ Keep (fun _ => False) w1 wr)
      case atStart => exact ⟨0, rfl, by omega, by rw [List.take_zero, rgtL], Keep.refl _ _⟩
      case round =>
        obtain ⟨k, rfl, hk, h0, hq⟩ := hrel
        obtain ⟨c0, -, -, -, -, -, -, c7⟩ := (HP1.out.keepF hq).eight
        by_cases hlt : k < t.subs.length
        · have hlt' : (k : Int) < t.subs.length := by omega
          obtain ⟨s, hs⟩ : ∃ s, t.subs[k]? = some s := ⟨t.subs[k], List.getElem?_eq_getElem hlt⟩
          have LL := Lib.hid (H0.out.2.1.keepF (Q1.out.trans hq))
          obtain ⟨b2, off, a1, e1, rfl, -, hbl, -, L1, C1⟩ := LL.out.get hs
          have N1 : NodeP wr b2 (off + k * 8) s a1 e1 := ⟨hbl, C1⟩
          obtain ⟨d0, -⟩ := N1.eight
          have hsl := sub_less hs
          obtain ⟨r, hr⟩ : ∃ r, rnd t.kind s.kind = r := ⟨_, rfl⟩
          obtain ⟨ans, hans⟩ : ∃ x, rgt (if r then d else d + 1) s = x := ⟨_, rfl⟩
          have hcall := fun (m : Nat) => H0.out.2.2.1 s (by omega) (if r then d else d + 1) (if r then op + 1 else op) (by cases r <;> simp <;> omega) (by cases r <;> simp <;> omega) b2 (off + k * 8) a1 e1 (wr.drewN m) (N1.keepF ((Keep.refl _ _).drewN m)) (L1.keepF ((Keep.refl _ _).drewN m))
          rw [hans] at hcall
          have HA := Lib.hid (And.intro hr (And.intro hans (And.intro hs (And.intro hq (And.intro h0 hcall)))))
          have i0 : (0 : Int) ≤ k := by omega
          have j1 : IntKind.i64.wrap (op + 1) = op + 1 := by rw [IntKind.wrap_i64]; omega
          clear hr hans hs hq h0 hcall N1 L1 C1
          go_wp2_with fail
          go_quiet ((go_at_call 94; exact quiet_same (brk_is HA.out.1 _)))
          cases r
          all_goals
            go_wp2_with fail
            refine (HA.out.2.2.2.2.2 _).mono ?_
            rintro e w2 ⟨rfl, q2⟩
            have HQ := Lib.hid (HA.out.2.2.2.1.trans (((Keep.refl _ _).drewN nq).trans q2))
            clear q2
            cases ans
            · have HD : D = false := by
                rw [← H0.out.2.2.2.1]
                exact rgtL_not t.subs k s HA.out.2.2.1 (by rw [HA.out.1]; exact HA.out.2.1)
              subst HD
              go_wp2_with fail
              go_ret
              exact ⟨rfl, Q1.out.trans HQ.out⟩
            · have HK := Lib.hid (rgtL_take t.subs k s HA.out.2.2.1 HA.out.2.2.2.2.1 (by rw [HA.out.1]; exact HA.out.2.1))
              go_wp2_with fail
              go_roundg (t.subs.length - (k + 1))
              case measure => omega
              case rel => exact ⟨k + 1, by go_num, by omega, HK.out, HQ.out⟩
        · have hke : k = t.subs.length := by omega
          subst hke
          rw [List.take_length] at h0
          have HD : D = true := by rw [← H0.out.2.2.2.1]; exact h0
          subst HD
          have HQ := Lib.hid hq
          clear hq h0
          go_wp2_with fail
          go_ret
          exact ⟨rfl, Q1.out.trans HQ.out⟩
theorem cright_all : ∀ (n : Nat) (t : T), SizeOf.sizeOf t < n → ∀ (d : Nat) (op : Int), 0 ≤ op → op + d = 13 → ∀ (bl o : Nat) (a : Option Addr) (c : Nat) (w : World), NodeP w bl o t a c → Lie w (fun _ => True) a t.subs → Calls Try.prog 75 #[.pointer (some ⟨bl, o, none⟩), .int .i64 op] w fun e w' => e = .returned (.bool (rgt d t)) ∧ Keep (fun _ => False) w w'
  | 0, _, h => absurd h (Nat.not_lt_zero _)
  | n + 1, t, h => fun d op ho hop bl o a c w hP hL => cright_step n (cright_all n) t h d op ho hop bl o a c w hP hL

set_option maxRecDepth 100000 in
/-- THE CODE'S RIGHT. -/
theorem cRight_any (t : T) (hs : SOk t) (a : Option Addr) (c : Nat) (w : World) (hL : Lie w (fun _ => True) a t.subs) : Calls Try.prog 53 #[nodeV t a c] w fun e w' => e = .returned (.bool (rightB t)) ∧ Keep (fun _ => False) w w' := by
  have a0 := At.new w (ncells t a c) 27
  have q := (Keep.refl (fun _ => False) w).alloc (.cells (ncells t a c) 27)
  have hcall := cright_all _ t (Nat.lt_succ_self _) 13 0 (by decide) (by decide) w.heap.size 0 a c _ (NodeP.of_at a0) (hL.keepF q)
  rw [rgt_right hs] at hcall
  obtain ⟨r, hr⟩ : ∃ r, rightB t = r := ⟨_, rfl⟩
  rw [hr] at hcall ⊢
  have HQ := Lib.hid (And.intro hcall q)
  clear hcall q hr a0
  go_enter Try.func53, Try.ntmps53
  go_wp2_with fail
  refine HQ.out.1.mono ?_
  rintro e w1 ⟨rfl, q1⟩
  have HQ1 := Lib.hid (HQ.out.2.trans q1)
  clear q1
  go_wp2
  go_ret
  exact ⟨rfl, HQ1.out⟩
end Go.Proofs.Ythcjfgfbeollpaa.P08
/- The document's IsPlain, of a plain one (layer 13). -/
namespace Go.Proofs.Ythcjfgfbeollpaa.P13
open Go.RowKit Go.Proofs.Ythcjfgfbeollpaa.Base Go.Proofs.Ythcjfgfbeollpaa.Bytes Go.Proofs.Ythcjfgfbeollpaa.P07 Go.Proofs.Ythcjfgfbeollpaa.P08 Go.Proofs.Ythcjfgfbeollpaa.P09 Go.Proofs.Ythcjfgfbeollpaa.P10
open Go.Proofs.Ythcjfgfbeollpaa.Sets (ST)

theorem fld_ways {t : T} (h : fldP t = true) : t.mn = 0 ∧ ((t.kind = 1 ∧ eqB t.set ST.none = true ∧ t.mx = 0 ∧ t.subs.length = 0) ∨ (t.kind = 2 ∧ t.mx = 0 ∧ t.subs.length = 0) ∨ (t.kind = 3 ∧ eqB t.set ST.none = true ∧ t.mx = 0 ∧ 2 ≤ t.subs.length) ∨ (t.kind = 4 ∧ eqB t.set ST.none = true ∧ t.mx = 0 ∧ 2 ≤ t.subs.length) ∨ (t.kind = 5 ∧ eqB t.set ST.none = true ∧ t.mx = -1 ∧ t.subs.length = 1)) := by
  unfold fldP at h
  simp only [Bool.and_eq_true, Bool.or_eq_true, decide_eq_true_eq] at h
  obtain ⟨h0, h⟩ := h
  refine ⟨h0, ?_⟩
  rcases h with ⟨h1, h2, h3, h4⟩ | ⟨h1, h3, h4⟩ | ⟨h1 | h1, h2, h3, h4⟩ | ⟨h1, h2, h3, h4⟩
  · exact .inl ⟨h1, h2, h3, h4⟩
  · exact .inr (.inl ⟨h1, h3, h4⟩)
  · exact .inr (.inr (.inl ⟨h1, h2, h3, h4⟩))
  · exact .inr (.inr (.inr (.inl ⟨h1, h2, h3, h4⟩)))
  · exact .inr (.inr (.inr (.inr ⟨h1, h2, h3, h4⟩)))
def FiOk (t : T) : Prop := isP t = true → ∀ (a : Option Addr) (c : Nat) (w : World), Lie w (fun _ => True) a t.subs → Calls Try.prog 20 #[nodeV t a c] w fun e w' => e = .returned (.bool true) ∧ Keep (fun _ => False) w w'

set_option maxRecDepth 100000 in
set_option maxHeartbeats 16000000 in
theorem fisp_step (t : T) (ih : ∀ u ∈ t.subs, FiOk u) : FiOk t := by
  intro hp a c w hL
  have hf : fldP t = true := by
    rw [isP_eq, Bool.and_eq_true] at hp
    exact hp.1
  have hlen := hL.len
  have HU := Lib.hid (fun (j : Nat) (u : T) (hu : t.subs[j]? = some u) (W : World) a2 c2 (h : Lie W (fun _ => True) a2 u.subs) => ih u (List.mem_of_getElem? hu) (isP_subs hp u (List.mem_of_getElem? hu)) a2 c2 W h)
  have q0 := (Keep.refl (fun _ => False) w).alloc (.cells (ncells t a c) 27)
  have B0 := Lib.hid (And.intro (At.new w (ncells t a c) 27) (And.intro q0 (hL.keepF q0)))
  obtain ⟨E, hE⟩ : ∃ E, eqB t.set ST.none = E := ⟨_, rfl⟩
  have es : ∀ W, (Op.equalIn 10000 24 (.agg #[.int .u64 (t.set.x0 : Int), .int .u64 (t.set.x1 : Int), .int .u64 (t.set.x2 : Int), .int .u64 (t.set.x3 : Int)]) (.agg #[.int .u64 0, .int .u64 0, .int .u64 0, .int .u64 0])).run Try.prog W = .ok E W := fun W => by
    rw [← hE]
    exact eq_set t.set ST.none W
  have HF := Lib.hid (fld_ways hf)
  have HE := Lib.hid (And.intro hE es)
  clear q0 hL ih hp hf hE es
  go_enter Try.func20, Try.ntmps20
  go_upto_region 1 with fail
  generalize (w.alloc (.cells (ncells t a c) 27)) = W0 at *
  go_wp2_with fail
  go_loopg [3] t.subs.length (fun gg i wr => ∃ j : Nat, i = .int .i64 j ∧ j + gg = t.subs.length ∧ Keep (fun _ => False) W0 wr)
  case atStart => exact ⟨0, rfl, by omega, Keep.refl _ _⟩
  case round =>
    obtain ⟨j, rfl, hj, I⟩ := hrel
    have j0 : (0 : Int) ≤ j := by omega
    have II := Lib.hid I
    obtain ⟨x0, x1, x2, x3, x4, x5, x6, x7⟩ := (cells8 (B0.out.1.keep I (fun h => h))).1
    clear I
    by_cases hlt : j < t.subs.length
    · have hlt' : (j : Int) < t.subs.length := by omega
      obtain ⟨u, hu⟩ : ∃ u, t.subs[j]? = some u := ⟨t.subs[j], List.getElem?_eq_getElem hlt⟩
      obtain ⟨bl2, off2, a2, c2, ea, -, hb2, hle2, L2, C2⟩ := (B0.out.2.2.keepF II.out).get hu
      subst ea
      obtain ⟨y0, y1, y2, y3, y4, y5, y6, y7⟩ := ncell C2
      have HC := Lib.hid (HU.out j u hu _ a2 c2 L2)
      clear L2 C2 hle2 hb2 hu
      go_wp2_with (go_at_call 20; refine HC.out.mono ?_; rintro e w2 ⟨rfl, q2⟩; have Q2 := Lib.hid q2; clear q2)
      go_roundg (t.subs.length - (j + 1))
      case measure => omega
      case rel => exact ⟨j + 1, by go_num, by omega, II.out.trans Q2.out⟩
    · have hje : t.subs.length = j := by omega
      have hlt' : ¬ (j : Int) < t.subs.length := by omega
      have es := HE.out.2
      have HQ := Lib.hid (B0.out.2.1.trans II.out)
      obtain ⟨m0, hw⟩ := HF.out
      rw [HE.out.1] at hw
      have m1 : (t.mn == 0) = true := by simp [m0]
      clear hj hlt hje m0
      rcases hw with ⟨k0, rfl, x, l⟩ | ⟨k0, x, l⟩ | ⟨k0, rfl, x, l⟩ | ⟨k0, rfl, x, l⟩ | ⟨k0, rfl, x, l⟩
      · have e1 : (t.mx == 0) = true := by simp [x]
        have e2 : ((t.subs.length : Int) == 0) = true := by simp [l]
        have k1 : (t.kind == 1) = true := by simp [k0]
        clear k0 x l
        go_wp2_with fail
        go_ret
        exact ⟨rfl, HQ.out⟩
      · have e1 : (t.mx == 0) = true := by simp [x]
        have e2 : ((t.subs.length : Int) == 0) = true := by simp [l]
        have k1 : (t.kind == 1) = false := by simp [k0]
        have k2 : (t.kind == 2) = true := by simp [k0]
        clear k0 x l
        go_wp2_with fail
        go_ret
        exact ⟨rfl, HQ.out⟩
      · have e1 : (t.mx == 0) = true := by simp [x]
        have e2 : decide ((2 : Int) ≤ t.subs.length) = true := by simp; omega
        have k1 : (t.kind == 1) = false := by simp [k0]
        have k2 : (t.kind == 2) = false := by simp [k0]
        have k3 : (t.kind == 3) = true := by simp [k0]
        clear k0 x l
        go_wp2_with fail
        go_ret
        exact ⟨rfl, HQ.out⟩
      · have e1 : (t.mx == 0) = true := by simp [x]
        have e2 : decide ((2 : Int) ≤ t.subs.length) = true := by simp; omega
        have k1 : (t.kind == 1) = false := by simp [k0]
        have k2 : (t.kind == 2) = false := by simp [k0]
        have k3 : (t.kind == 3) = false := by simp [k0]
        have k4 : (t.kind == 4) = true := by simp [k0]
        clear k0 x l
        go_wp2_with fail
        go_ret
        exact ⟨rfl, HQ.out⟩
      · have e1 : (t.mx == -1) = true := by simp [x]
        have e2 : ((t.subs.length : Int) == 1) = true := by simp [l]
        have k1 : (t.kind == 1) = false := by simp [k0]
        have k2 : (t.kind == 2) = false := by simp [k0]
        have k3 : (t.kind == 3) = false := by simp [k0]
        have k4 : (t.kind == 4) = false := by simp [k0]
        have k5 : (t.kind == 5) = true := by simp [k0]
        clear k0 x l
        go_wp2_with fail
        go_ret
        exact ⟨rfl, HQ.out⟩
theorem fisp_all : ∀ (n : Nat) (t : T), SizeOf.sizeOf t < n → FiOk t
  | 0, _, h => absurd h (Nat.not_lt_zero _)
  | n + 1, t, h => fisp_step t fun u hu => fisp_all n u (by have := subs_lt hu; omega)
theorem fisp_any (t : T) : FiOk t := fisp_all _ t (Nat.lt_succ_self _)
end Go.Proofs.Ythcjfgfbeollpaa.P13
/- Layer 11, plain: the places at which matches end, by rows of places: step after step they are those by definition. -/
namespace Go.Proofs.Ythcjfgfbeollpaa.P11
open Go.Proofs.Ythcjfgfbeollpaa.P07 Go.Proofs.Ythcjfgfbeollpaa.P08 Go.Proofs.Ythcjfgfbeollpaa.P09 Go.Proofs.Ythcjfgfbeollpaa.P10 Go.Proofs.Ythcjfgfbeollpaa.Bytes
open Go.Proofs.Ythcjfgfbeollpaa.Sets (ST)

/-- The bytes from a place up to another one. -/
def seg (s : List UInt8) (i j : Nat) : List UInt8 := (s.drop i).take (j - i)
theorem seg_length {s : List UInt8} {i j : Nat} (h : j ≤ s.length) : (seg s i j).length = j - i := by
  unfold seg
  rw [List.length_take, List.length_drop]
  omega
theorem seg_split (s : List UInt8) {i k j : Nat} (h1 : i ≤ k) (h2 : k ≤ j) : seg s i j = seg s i k ++ seg s k j := by
  unfold seg
  rw [show j - i = (k - i) + (j - k) by omega, List.take_add, List.drop_drop, show i + (k - i) = k by omega]
theorem seg_self (s : List UInt8) (i : Nat) : seg s i i = [] := by
  unfold seg
  simp
theorem seg_one {s : List UInt8} {i : Nat} (h : i < s.length) : seg s i (i + 1) = [s.getD i 0] := by
  unfold seg
  rw [List.drop_eq_getElem_cons h, Nat.add_sub_cancel_left, List.getD_eq_getElem?_getD, List.getElem?_eq_getElem h]
  rfl
/-- Two parts of a piece are pieces that touch. -/
theorem seg_seq {s : List UInt8} {i j : Nat} (h1 : i ≤ j) (h2 : j ≤ s.length) (P Q : List UInt8 → Prop) : (∃ u v, seg s i j = u ++ v ∧ P u ∧ Q v) ↔ ∃ k, i ≤ k ∧ k ≤ j ∧ P (seg s i k) ∧ Q (seg s k j) := by
  constructor
  · rintro ⟨u, v, e, hu, hv⟩
    have hl := seg_length (i := i) h2
    rw [e, List.length_append] at hl
    have e2 := seg_split s (i := i) (k := i + u.length) (j := j) (by omega) (by omega)
    rw [e] at e2
    obtain ⟨e3, e4⟩ := List.append_inj e2 (by rw [seg_length (by omega)]; omega)
    exact ⟨i + u.length, by omega, by omega, by rw [← e3]; exact hu, by rw [← e4]; exact hv⟩
  · rintro ⟨k, hk1, hk2, hu, hv⟩
    exact ⟨_, _, seg_split s hk1 hk2, hu, hv⟩

theorem Pow.snoc {P : List UInt8 → Prop} : ∀ (n : Nat) (w : List UInt8), Pow P (n + 1) w ↔ ∃ u v, w = u ++ v ∧ Pow P n u ∧ P v := fun n w => by
  constructor
  · intro h
    induction n generalizing w with
    | zero => exact ⟨[], w, rfl, rfl, (Pow.one w).1 h⟩
    | succ n ih =>
      obtain ⟨u, v, rfl, hu, hv⟩ := h
      obtain ⟨a, b, rfl, ha, hb⟩ := ih v hv
      exact ⟨u ++ a, b, by rw [List.append_assoc], ⟨u, a, rfl, hu, ha⟩, hb⟩
  · rintro ⟨u, v, rfl, hu, hv⟩
    exact Pow.add n 1 u v hu ((Pow.one v).2 hv)

/-- A place is in a row. -/
def On (X : List Bool) (j : Nat) : Prop := X.getD j false = true
theorem On.lt {X : List Bool} {j : Nat} (h : On X j) : j < X.length := by
  unfold On at h
  refine Decidable.byContradiction fun hn => ?_
  rw [List.getD_eq_getElem?_getD, List.getElem?_eq_none (by omega)] at h
  cases h
theorem On.some {X : List Bool} {j : Nat} {b : Bool} (h : X[j]? = some b) : On X j ↔ b = true := by
  unfold On
  rw [List.getD_eq_getElem?_getD, h]
  rfl
theorem On.ext {X Y : List Bool} (hl : X.length = Y.length) (h : ∀ j, On X j ↔ On Y j) : X = Y := by
  apply List.ext_getElem?
  intro j
  by_cases hj : j < X.length
  · rw [getD_get hj, getD_get (L := Y) (by omega)]
    have := h j
    unfold On at this
    rw [Bool.eq_iff_iff.2 this]
  · rw [List.getElem?_eq_none (by omega), List.getElem?_eq_none (by omega)]
theorem On.no (m j : Nat) : ¬ On (noB m) j := by
  intro h
  have := h.lt
  rw [noB_length] at this
  rw [On.some (b := false) (by simp [noB, this])] at h
  cases h
theorem orB_length (a b : List Bool) : (orB a b).length = a.length := by
  unfold orB
  exact OP_length _ _ _
theorem On.or {a b : List Bool} (hl : b.length = a.length) (j : Nat) : On (orB a b) j ↔ On a j ∨ On b j := by
  by_cases hj : j < a.length
  · unfold orB
    rw [On.some (OP_get a b (i := a.length) hj)]
    unfold On
    rw [decide_eq_true hj, Bool.true_and, Bool.or_eq_true]
  · constructor
    · intro h
      have := h.lt
      rw [orB_length] at this
      exact absurd this hj
    · rintro (h | h)
      · exact absurd h.lt hj
      · have := h.lt
        omega

/-- A byte of a set from each place, the first i places gone over. -/
def CL (s : List UInt8) (S : ST) (a : List Bool) (i : Nat) : List Bool := (List.range (s.length + 1)).map fun j => decide (1 ≤ j ∧ j ≤ i) && (a.getD (j - 1) false && S.has (s.getD (j - 1) 0).toNat)
def clsB (s : List UInt8) (S : ST) (a : List Bool) : List Bool := CL s S a s.length
theorem CL_length (s : List UInt8) (S : ST) (a : List Bool) (i : Nat) : (CL s S a i).length = s.length + 1 := by simp [CL]
theorem CL_get (s : List UInt8) (S : ST) (a : List Bool) {i j : Nat} (h : j < s.length + 1) : (CL s S a i)[j]? = some (decide (1 ≤ j ∧ j ≤ i) && (a.getD (j - 1) false && S.has (s.getD (j - 1) 0).toNat)) := by
  simp [CL, h]
theorem CL_start (s : List UInt8) (S : ST) (a : List Bool) : CL s S a 0 = noB s.length := by
  apply List.ext_getElem?
  intro j
  by_cases h : j < s.length + 1
  · rw [CL_get s S a h, decide_eq_false (by omega), Bool.false_and]
    simp [noB, h]
  · rw [List.getElem?_eq_none (by rw [CL_length]; omega), List.getElem?_eq_none (by rw [noB_length]; omega)]
theorem CL_step (s : List UInt8) (S : ST) (a : List Bool) (i : Nat) : CL s S a (i + 1) = (CL s S a i).set (i + 1) (a.getD i false && S.has (s.getD i 0).toNat) := by
  apply List.ext_getElem?
  intro j
  by_cases hj : j < s.length + 1
  · rw [CL_get s S a hj, List.getElem?_set]
    by_cases e : i + 1 = j
    · subst e
      rw [if_pos rfl, if_pos (by rw [CL_length]; exact hj), decide_eq_true (by omega), Bool.true_and, Nat.add_sub_cancel]
    · rw [if_neg e, CL_get s S a hj]
      have e1 : decide (1 ≤ j ∧ j ≤ i + 1) = decide (1 ≤ j ∧ j ≤ i) := by
        rw [decide_eq_decide]
        omega
      rw [e1]
  · rw [List.getElem?_eq_none (by rw [CL_length]; omega), List.getElem?_eq_none (by rw [List.length_set, CL_length]; omega)]
theorem cls_on (s : List UInt8) (S : ST) (a : List Bool) (j : Nat) : On (clsB s S a) j ↔ ∃ i, On a i ∧ i ≤ j ∧ j ≤ s.length ∧ ∃ b : UInt8, seg s i j = [b] ∧ S.has b.toNat = true := by
  by_cases hj : j < s.length + 1
  · unfold clsB
    rw [On.some (CL_get s S a hj), Bool.and_eq_true, Bool.and_eq_true, decide_eq_true_iff]
    constructor
    · rintro ⟨⟨h1, -⟩, h2, h3⟩
      have e := seg_one (s := s) (i := j - 1) (by omega)
      rw [show j - 1 + 1 = j by omega] at e
      exact ⟨j - 1, h2, by omega, by omega, _, e, h3⟩
    · rintro ⟨i, h1, h2, h3, b, h4, h5⟩
      have hl := seg_length (s := s) (i := i) h3
      rw [h4, List.length_singleton] at hl
      have hi : i = j - 1 := by omega
      subst hi
      have e := seg_one (s := s) (i := j - 1) (by omega)
      rw [show j - 1 + 1 = j by omega, h4] at e
      injection e with e _
      rw [e] at h5
      exact ⟨by omega, h1, h5⟩
  · constructor
    · intro h
      have := h.lt
      unfold clsB at this
      rw [CL_length] at this
      exact absurd this hj
    · rintro ⟨i, -, -, h, -⟩
      omega

/-- Did anything come? -/
def cameB (X Y : List Bool) : Bool := (List.range X.length).any fun j => Y.getD j false && !X.getD j false
theorem came_no {X Y : List Bool} (hl : Y.length = X.length) (h : cameB X Y = false) (j : Nat) (hj : On Y j) : On X j := by
  refine Classical.byContradiction fun hn => ?_
  have := hj.lt
  have h1 : cameB X Y = true := by
    unfold cameB
    rw [List.any_eq_true]
    refine ⟨j, List.mem_range.2 (by omega), ?_⟩
    unfold On at hj hn
    rw [hj]
    simpa using hn
  rw [h] at h1
  cases h1
/-- As often as may be: what is reached so far, and what so many make. -/
def repE (mn : Int) (f : List Bool → List Bool) : Nat → Nat → List Bool → List Bool → List Bool
  | 0, _, out, _ => out
  | n + 1, k, out, now => if mn ≤ k then (if cameB out now = true then repE mn f n (k + 1) (orB out now) (f now) else orB out now) else repE mn f n (k + 1) out (f now)
mutual
/-- Of places at which something begins those at which a match of it ends. -/
def stepB (s : List UInt8) : T → List Bool → List Bool
  | .nd k S mn mx l => fun X => if k = 1 then X else if k = 2 then clsB s S X else if k = 3 then stepC s l X else if k = 4 then stepA s l (noB s.length) X else if k = 5 then repE mn (stepH s l) (lastN (s.length + 1) mn mx + 1).toNat 0 (noB s.length) X else noB s.length
def stepC (s : List UInt8) : List T → List Bool → List Bool
  | [] => fun X => X
  | t :: l => fun X => stepC s l (stepB s t X)
def stepA (s : List UInt8) : List T → List Bool → List Bool → List Bool
  | [] => fun acc _ => acc
  | t :: l => fun acc X => stepA s l (orB acc (stepB s t X)) X
def stepH (s : List UInt8) : List T → List Bool → List Bool
  | [] => fun _ => noB s.length
  | t :: _ => stepB s t
end
theorem stepB_eq (s : List UInt8) (t : T) (X : List Bool) : stepB s t X = if t.kind = 1 then X else if t.kind = 2 then clsB s t.set X else if t.kind = 3 then stepC s t.subs X else if t.kind = 4 then stepA s t.subs (noB s.length) X else if t.kind = 5 then repE t.mn (stepH s t.subs) (lastN (s.length + 1) t.mn t.mx + 1).toNat 0 (noB s.length) X else noB s.length := by
  cases t
  rw [stepB]
  rfl
theorem stepC_nil (s : List UInt8) (X : List Bool) : stepC s [] X = X := by rw [stepC]
theorem stepC_cons (s : List UInt8) (t : T) (l : List T) (X : List Bool) : stepC s (t :: l) X = stepC s l (stepB s t X) := by rw [stepC]
theorem stepA_nil (s : List UInt8) (acc X : List Bool) : stepA s [] acc X = acc := by rw [stepA]
theorem stepA_cons (s : List UInt8) (t : T) (l : List T) (acc X : List Bool) : stepA s (t :: l) acc X = stepA s l (orB acc (stepB s t X)) X := by rw [stepA]
theorem stepH_cons (s : List UInt8) (t : T) (l : List T) (X : List Bool) : stepH s (t :: l) X = stepB s t X := by rw [stepH]
theorem stepC_at (s : List UInt8) (X : List Bool) {L : List T} {i : Nat} {t : T} (h : L[i]? = some t) : stepC s (L.take (i + 1)) X = stepB s t (stepC s (L.take i) X) := by
  induction L generalizing i X with
  | nil => simp at h
  | cons u L ih =>
    cases i with
    | zero =>
      simp at h
      subst h
      rw [List.take_succ_cons, List.take_zero, List.take_zero, stepC_cons, stepC_nil, stepC_nil]
    | succ i =>
      rw [List.take_succ_cons, List.take_succ_cons, stepC_cons, stepC_cons]
      exact ih (stepB s u X) (by simpa using h)
theorem stepA_at (s : List UInt8) (acc X : List Bool) {L : List T} {i : Nat} {t : T} (h : L[i]? = some t) : stepA s (L.take (i + 1)) acc X = orB (stepA s (L.take i) acc X) (stepB s t X) := by
  induction L generalizing i acc with
  | nil => simp at h
  | cons u L ih =>
    cases i with
    | zero =>
      simp at h
      subst h
      rw [List.take_succ_cons, List.take_zero, List.take_zero, stepA_cons, stepA_nil, stepA_nil]
    | succ i =>
      rw [List.take_succ_cons, List.take_succ_cons, stepA_cons, stepA_cons]
      exact ih (orB acc (stepB s u X)) (by simpa using h)

/-- From some place in the row a piece up to j. -/
def Rch (s : List UInt8) (P : List UInt8 → Prop) (X : List Bool) (j : Nat) : Prop := ∃ i, On X i ∧ i ≤ j ∧ j ≤ s.length ∧ P (seg s i j)
theorem Rch.congr {s : List UInt8} {P Q : List UInt8 → Prop} (h : ∀ w, P w ↔ Q w) (X : List Bool) (j : Nat) : Rch s P X j ↔ Rch s Q X j := by
  constructor
  · rintro ⟨i, h1, h2, h3, h4⟩
    exact ⟨i, h1, h2, h3, (h _).1 h4⟩
  · rintro ⟨i, h1, h2, h3, h4⟩
    exact ⟨i, h1, h2, h3, (h _).2 h4⟩
theorem Rch.seq {s : List UInt8} (P Q : List UInt8 → Prop) (X Y : List Bool) (hY : ∀ j, On Y j ↔ Rch s P X j) (j : Nat) : Rch s (fun w => ∃ u v, w = u ++ v ∧ P u ∧ Q v) X j ↔ Rch s Q Y j := by
  constructor
  · rintro ⟨i, h1, h2, h3, h4⟩
    obtain ⟨k, hk1, hk2, hu, hv⟩ := (seg_seq h2 h3 P Q).1 h4
    exact ⟨k, (hY k).2 ⟨i, h1, hk1, by omega, hu⟩, hk2, h3, hv⟩
  · rintro ⟨k, hk, hk2, h3, hv⟩
    obtain ⟨i, h1, hk1, -, hu⟩ := (hY k).1 hk
    exact ⟨i, h1, by omega, h3, (seg_seq (by omega) h3 P Q).2 ⟨k, hk1, hk2, hu, hv⟩⟩
def StepOk (s : List UInt8) (t : T) : Prop := ∀ X : List Bool, X.length = s.length + 1 → (stepB s t X).length = s.length + 1 ∧ ∀ j, On (stepB s t X) j ↔ Rch s (Mat t) X j
theorem stepC_ok (s : List UInt8) : ∀ l : List T, (∀ t ∈ l, StepOk s t) → ∀ X : List Bool, X.length = s.length + 1 → (stepC s l X).length = s.length + 1 ∧ ∀ j, On (stepC s l X) j ↔ Rch s (MCat l) X j
  | [], _, X, hX => by
    rw [stepC_nil]
    refine ⟨hX, fun j => ⟨fun h => ⟨j, h, Nat.le_refl j, by have := h.lt; omega, by rw [seg_self, mcat_nil]⟩, ?_⟩⟩
    rintro ⟨i, h1, h2, h3, h4⟩
    rw [mcat_nil] at h4
    have := seg_length (s := s) (i := i) h3
    rw [h4, List.length_nil] at this
    rw [show j = i by omega]
    exact h1
  | t :: l, h, X, hX => by
    obtain ⟨h1, h2⟩ := h t (List.mem_cons_self ..) X hX
    obtain ⟨h3, h4⟩ := stepC_ok s l (fun u hu => h u (List.mem_cons_of_mem _ hu)) (stepB s t X) h1
    rw [stepC_cons]
    refine ⟨h3, fun j => ?_⟩
    rw [h4 j, ← Rch.seq (Mat t) (MCat l) X (stepB s t X) h2 j]
    exact Rch.congr (fun w => (mcat_cons t l w).symm) X j
theorem stepA_ok (s : List UInt8) : ∀ l : List T, (∀ t ∈ l, StepOk s t) → ∀ acc X : List Bool, acc.length = s.length + 1 → X.length = s.length + 1 → (stepA s l acc X).length = s.length + 1 ∧ ∀ j, On (stepA s l acc X) j ↔ On acc j ∨ Rch s (MAlt l) X j
  | [], _, acc, X, ha, hX => by
    rw [stepA_nil]
    refine ⟨ha, fun j => ⟨.inl, ?_⟩⟩
    rintro (h | ⟨i, h1, h2, h3, h4⟩)
    · exact h
    · exact absurd h4 (malt_nil _)
  | t :: l, h, acc, X, ha, hX => by
    obtain ⟨h1, h2⟩ := h t (List.mem_cons_self ..) X hX
    obtain ⟨h3, h4⟩ := stepA_ok s l (fun u hu => h u (List.mem_cons_of_mem _ hu)) (orB acc (stepB s t X)) X (by rw [orB_length]; exact ha) hX
    rw [stepA_cons]
    refine ⟨h3, fun j => ?_⟩
    rw [h4 j, On.or (by omega), h2 j, or_assoc]
    refine or_congr_right ?_
    constructor
    · rintro (⟨i, a1, a2, a3, a4⟩ | ⟨i, a1, a2, a3, a4⟩)
      · exact ⟨i, a1, a2, a3, (malt_cons _ _ _).2 (.inl a4)⟩
      · exact ⟨i, a1, a2, a3, (malt_cons _ _ _).2 (.inr a4)⟩
    · rintro ⟨i, a1, a2, a3, a4⟩
      rcases (malt_cons _ _ _).1 a4 with a4 | a4
      · exact .inl ⟨i, a1, a2, a3, a4⟩
      · exact .inr ⟨i, a1, a2, a3, a4⟩
/-- So many, from a place in the row up to j. -/
theorem Rch.next {s : List UInt8} {P : List UInt8 → Prop} {X Y : List Bool} {k : Nat} (hY : ∀ j, On Y j ↔ Rch s (Pow P k) X j) (j : Nat) : Rch s (Pow P (k + 1)) X j ↔ Rch s P Y j := by
  rw [← Rch.seq (Pow P k) P X Y hY j]
  exact Rch.congr (fun w => Pow.snoc k w) X j
theorem rep_ok (s : List UInt8) (mn : Int) (P : List UInt8 → Prop) (f : List Bool → List Bool) (hf : ∀ X : List Bool, X.length = s.length + 1 → (f X).length = s.length + 1 ∧ ∀ j, On (f X) j ↔ Rch s P X j) (X : List Bool) : ∀ (n k : Nat) (out now : List Bool), out.length = s.length + 1 → now.length = s.length + 1 → (∀ j, On out j ↔ ∃ m : Nat, mn ≤ m ∧ m < k ∧ Rch s (Pow P m) X j) → (∀ j, On now j ↔ Rch s (Pow P k) X j) →
    (repE mn f n k out now).length = s.length + 1 ∧ ∀ j, On (repE mn f n k out now) j ↔ ∃ m : Nat, mn ≤ m ∧ m < k + n ∧ Rch s (Pow P m) X j
  | 0, k, out, now, ho, _, h1, _ => by
    rw [repE]
    exact ⟨ho, h1⟩
  | n + 1, k, out, now, ho, hn, h1, h2 => by
    obtain ⟨f1, f2⟩ := hf now hn
    have h3 : ∀ j, On (f now) j ↔ Rch s (Pow P (k + 1)) X j := fun j => by rw [f2 j, Rch.next h2 j]
    rw [repE]
    by_cases hk : mn ≤ k
    · rw [if_pos hk]
      have h4 : ∀ j, On (orB out now) j ↔ ∃ m : Nat, mn ≤ m ∧ m < k + 1 ∧ Rch s (Pow P m) X j := fun j => by
        rw [On.or (by omega), h1 j, h2 j]
        constructor
        · rintro (⟨m, a1, a2, a3⟩ | h)
          · exact ⟨m, a1, by omega, a3⟩
          · exact ⟨k, hk, by omega, h⟩
        · rintro ⟨m, a1, a2, a3⟩
          by_cases hm : m = k
          · subst hm
            exact .inr a3
          · exact .inl ⟨m, a1, by omega, a3⟩
      cases hc : cameB out now with
      | true =>
        rw [if_pos rfl]
        have := rep_ok s mn P f hf X n (k + 1) (orB out now) (f now) (by rw [orB_length]; exact ho) f1 h4 h3
        rw [show k + 1 + n = k + (n + 1) by omega] at this
        exact this
      | false =>
        rw [if_neg (by decide)]
        refine ⟨by rw [orB_length]; exact ho, fun j => ?_⟩
        have hin := came_no (by omega) hc
        have h5 : ∀ (d j : Nat), Rch s (Pow P (k + d)) X j → ∃ m : Nat, mn ≤ m ∧ m < k + 1 ∧ Rch s (Pow P m) X j := by
          intro d
          induction d with
          | zero => exact fun j h => ⟨k, hk, by omega, h⟩
          | succ d ih =>
            rintro j ⟨i, a1, a2, a3, a4⟩
            obtain ⟨u, v, e, hu, hv⟩ := (Pow.snoc (k + d) _).1 a4
            obtain ⟨p, b1, b2, b3, b4⟩ := (seg_seq a2 a3 (Pow P (k + d)) P).1 ⟨u, v, e, hu, hv⟩
            obtain ⟨m, c1, c2, c3⟩ := ih p ⟨i, a1, b1, by omega, b3⟩
            -- what is reached by m is in out already: m may be taken below k
            have c4 : On out p := by
              by_cases hm : m = k
              · subst hm
                exact hin p ((h2 p).2 c3)
              · exact (h1 p).2 ⟨m, c1, by omega, c3⟩
            obtain ⟨m', d1, d2, q, d3, d4, d5, d6⟩ := (h1 p).1 c4
            exact ⟨m' + 1, by omega, by omega, q, d3, by omega, a3, (Pow.snoc m' _).2 ⟨_, _, seg_split s d4 b2, d6, b4⟩⟩
        rw [h4 j]
        constructor
        · rintro ⟨m, a1, a2, a3⟩
          exact ⟨m, a1, by omega, a3⟩
        · rintro ⟨m, a1, a2, a3⟩
          by_cases hm : m < k + 1
          · exact ⟨m, a1, hm, a3⟩
          · exact h5 (m - k) j (by rw [show k + (m - k) = m by omega]; exact a3)
    · rw [if_neg hk]
      have := rep_ok s mn P f hf X n (k + 1) out (f now) ho f1 (fun j => by
        rw [h1 j]
        constructor
        · rintro ⟨m, a1, a2, a3⟩
          exact ⟨m, a1, by omega, a3⟩
        · rintro ⟨m, a1, a2, a3⟩
          exact ⟨m, a1, by omega, a3⟩) h3
      rw [show k + 1 + n = k + (n + 1) by omega] at this
      exact this
theorem step_ok (s : List UInt8) : ∀ (n : Nat) (t : T), SizeOf.sizeOf t < n → ∀ d, RT d t → StepOk s t
  | 0, _, h, _, _ => absurd h (Nat.not_lt_zero _)
  | n + 1, t, h, d, hR => fun X hX => by
    have ih : ∀ u ∈ t.subs, StepOk s u := fun u hu => by
      obtain ⟨i, hi⟩ := List.mem_iff_getElem?.1 hu
      exact step_ok s n u (by have := sub_less hi; omega) d (sub_RT hR hi)
    have e := stepB_eq s t X
    have e2 : ∀ j, Rch s (Mat t) X j ↔ Rch s (fun w => (t.kind = 1 ∧ w = []) ∨ (t.kind = 2 ∧ ∃ b : UInt8, w = [b] ∧ t.set.has b.toNat = true) ∨ (t.kind = 3 ∧ MCat t.subs w) ∨ (t.kind = 4 ∧ MAlt t.subs w) ∨ (t.kind = 5 ∧ ∃ n : Nat, t.mn ≤ n ∧ (t.mx < 0 ∨ (n : Int) ≤ t.mx) ∧ Pow (MHd t.subs) n w)) X j := fun j => Rch.congr (fun w => by cases t; exact mat_nd ..) X j
    by_cases k1 : t.kind = 1
    · rw [if_pos k1] at e
      rw [e]
      refine ⟨hX, fun j => ?_⟩
      rw [e2 j, Rch.congr (Q := fun w => w = []) (fun w => ⟨fun h => by
        rcases h with h | h | h | h | h
        · exact h.2
        all_goals omega, fun h => .inl ⟨k1, h⟩⟩) X j]
      constructor
      · exact fun h => ⟨j, h, Nat.le_refl j, by have := h.lt; omega, seg_self s j⟩
      · rintro ⟨i, a1, a2, a3, a4⟩
        have := seg_length (s := s) (i := i) a3
        rw [a4, List.length_nil] at this
        rw [show j = i by omega]
        exact a1
    rw [if_neg k1] at e
    by_cases k2 : t.kind = 2
    · rw [if_pos k2] at e
      rw [e]
      refine ⟨CL_length _ _ _ _, fun j => ?_⟩
      rw [e2 j, cls_on]
      exact (Rch.congr (Q := fun w => ∃ b : UInt8, w = [b] ∧ t.set.has b.toNat = true) (fun w => ⟨fun h => by
        rcases h with h | h | h | h | h
        · omega
        · exact h.2
        all_goals omega, fun h => .inr (.inl ⟨k2, h⟩)⟩) X j).symm
    rw [if_neg k2] at e
    by_cases k3 : t.kind = 3
    · rw [if_pos k3] at e
      rw [e]
      obtain ⟨h1, h2⟩ := stepC_ok s t.subs ih X hX
      refine ⟨h1, fun j => ?_⟩
      rw [e2 j, h2 j]
      exact Rch.congr (fun w => ⟨fun h => .inr (.inr (.inl ⟨k3, h⟩)), fun h => by
        rcases h with h | h | h | h | h
        · omega
        · omega
        · exact h.2
        all_goals omega⟩) X j
    rw [if_neg k3] at e
    by_cases k4 : t.kind = 4
    · rw [if_pos k4] at e
      rw [e]
      obtain ⟨h1, h2⟩ := stepA_ok s t.subs ih (noB s.length) X (noB_length _) hX
      refine ⟨h1, fun j => ?_⟩
      rw [e2 j, h2 j]
      rw [Rch.congr (P := fun w => _ ∨ _) (Q := MAlt t.subs) (fun w => ⟨fun h => by
        rcases h with h | h | h | h | h
        · omega
        · omega
        · omega
        · exact h.2
        · omega, fun h => .inr (.inr (.inr (.inl ⟨k4, h⟩)))⟩) X j]
      exact ⟨fun h => h.resolve_left (On.no _ _), .inr⟩
    rw [if_neg k4] at e
    by_cases k5 : t.kind = 5
    · rw [if_pos k5] at e
      rw [e]
      obtain ⟨u, hsub, m0, m1, hxx, -⟩ := kind5_one hR k5
      have hu := ih u (by rw [hsub]; exact List.mem_cons_self ..)
      have hH : stepH s t.subs = stepB s u := by
        rw [hsub]
        funext X
        exact stepH_cons s u [] X
      rw [hH]
      obtain ⟨h1, h2⟩ := rep_ok s t.mn (Mat u) (stepB s u) hu X (lastN (s.length + 1) t.mn t.mx + 1).toNat 0 (noB s.length) X (noB_length _) hX (fun j => ⟨fun h => absurd h (On.no _ _), fun ⟨m, _, h, _⟩ => absurd h (Nat.not_lt_zero _)⟩) (fun j => by
        constructor
        · exact fun h => ⟨j, h, Nat.le_refl j, by have := h.lt; omega, by rw [seg_self]; rfl⟩
        · rintro ⟨i, a1, a2, a3, a4⟩
          have := seg_length (s := s) (i := i) a3
          rw [show seg s i j = [] from a4, List.length_nil] at this
          rw [show j = i by omega]
          exact a1)
      refine ⟨h1, fun j => ?_⟩
      rw [e2 j, h2 j, Nat.zero_add]
      have hLN : lastN (s.length + 1) t.mn t.mx = if t.mx < 0 then t.mn + ((s.length + 1 : Nat) : Int) else t.mx := rfl
      constructor
      · rintro ⟨m, a1, a2, i, b1, b2, b3, b4⟩
        refine ⟨i, b1, b2, b3, .inr (.inr (.inr (.inr ⟨k5, m, a1, ?_, by rw [hsub]; exact (Pow.congr (fun w => (mhd_cons u [] w).symm) m _).1 b4⟩)))⟩
        by_cases hx : t.mx < 0
        · exact .inl hx
        · rw [if_neg hx] at hLN
          exact .inr (by omega)
      · rintro ⟨i, b1, b2, b3, b4⟩
        obtain ⟨m, a1, a2, a3⟩ : ∃ m : Nat, t.mn ≤ m ∧ (t.mx < 0 ∨ (m : Int) ≤ t.mx) ∧ Pow (MHd t.subs) m (seg s i j) := by
          rcases b4 with h | h | h | h | h
          · omega
          · omega
          · omega
          · omega
          · exact h.2
        rw [hsub] at a3
        have a4 := (Pow.congr (fun w => mhd_cons u [] w) m _).1 a3
        by_cases hx : t.mx < 0
        · rw [if_pos hx] at hLN
          obtain ⟨m', c1, c2, c3, c4⟩ := Pow.short m _ a4
          have hl := seg_length (s := s) (i := i) b3
          by_cases hm : m' < m
          · by_cases hm2 : t.mn ≤ m'
            · exact ⟨m', hm2, by omega, i, b1, b2, b3, c4⟩
            · exact ⟨t.mn.toNat, by omega, by omega, i, b1, b2, b3, Pow.more (c3 hm) (by omega) c4⟩
          · exact ⟨m', by omega, by omega, i, b1, b2, b3, c4⟩
        · rw [if_neg hx] at hLN
          exact ⟨m, a1, by omega, i, b1, b2, b3, a4⟩
    rw [if_neg k5] at e
    exact absurd (P08.kinds hR) (by omega)
end Go.Proofs.Ythcjfgfbeollpaa.P11
/- The document's Lengths (layer 9), of right expressions: all but repetitions. -/
namespace Go.Proofs.Ythcjfgfbeollpaa.P09
open Go.RowKit Go.Proofs.Ythcjfgfbeollpaa.Base Go.Proofs.Ythcjfgfbeollpaa.Bytes Go.Proofs.Ythcjfgfbeollpaa.P07 Go.Proofs.Ythcjfgfbeollpaa.P08
open Go.Proofs.Ythcjfgfbeollpaa.Sets (ST)

theorem noB_get {m k : Nat} (h : k < m + 1) : (noB m)[k]? = some false := by simp [noB, h]

/-- The blocks of a tree lie in the world. -/
theorem lie_under {w : World} {ok : Nat → Prop} {a : Option Addr} {L : List T} (h : Lie w ok a L) : Lie w (fun k => k < w.heap.size) a L := by
  induction h with
  | nil a => exact .nil a
  | cons bl off L A C hL hb hok hC hc _ ih => exact .cons bl off L A C hL hb hb hC hc ih
/-- A node in the box n, its parts in blocks below it. -/
structure Bz (W : World) (n : Nat) (t : T) (a : Option Addr) (c : Nat) : Prop where
  cell : At W n 27 (ncells t a c)
  lie : Lie W (fun k => k < n) a t.subs
theorem Bz.keep {S : Nat → Prop} {W W' : World} {n : Nat} {t : T} {a : Option Addr} {c : Nat} (h : Bz W n t a c) (q : Keep S W W') (hS : ∀ b, b ≤ n → ¬ S b) : Bz W' n t a c := ⟨h.cell.keep q (hS n (Nat.le_refl n)), h.lie.keep q (fun b hb => hS b (by omega))⟩
theorem Bz.box {W : World} {n : Nat} {t : T} {a : Option Addr} {c : Nat} (h : Bz W n t a c) : Bx W n t a c := ⟨h.cell, h.lie.mono (fun _ _ => trivial)⟩
theorem Bz.new {W : World} {t : T} {a : Option Addr} {c : Nat} (hL : Lie W (fun _ => True) a t.subs) : Bz (W.alloc (.cells (ncells t a c) 27)) W.heap.size t a c :=
  ⟨At.new W _ _, (lie_under hL).keepF ((Keep.refl (fun _ => False) W).alloc _)⟩

end Go.Proofs.Ythcjfgfbeollpaa.P09
/- Layer 11, plain: matching by definition, as the document's own recursion goes. -/
namespace Go.Proofs.Ythcjfgfbeollpaa.P11
open Go.Proofs.Ythcjfgfbeollpaa.P07 Go.Proofs.Ythcjfgfbeollpaa.P08 Go.Proofs.Ythcjfgfbeollpaa.P09 Go.Proofs.Ythcjfgfbeollpaa.P10 Go.Proofs.Ythcjfgfbeollpaa.Bytes
open Go.Proofs.Ythcjfgfbeollpaa.Sets (ST)

/-- Whether something holds. -/
noncomputable def pb (p : Prop) : Bool := @decide p (Classical.propDecidable p)
end Go.Proofs.Ythcjfgfbeollpaa.P11
