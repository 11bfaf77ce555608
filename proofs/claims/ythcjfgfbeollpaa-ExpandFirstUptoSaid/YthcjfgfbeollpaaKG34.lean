/- The code's size and wide (layer 9). -/
import Derived.Test.YthcjfgfbeollpaaKG33
import Derived.Test.YthcjfgfbeollpaaKG29
import Derived.Test.YthcjfgfbeollpaaKG27
import Derived.Test.YthcjfgfbeollpaaKG28
namespace Go.Proofs.Ythcjfgfbeollpaa.P09
open Go.RowKit Go.Proofs.Ythcjfgfbeollpaa.Base Go.Proofs.Ythcjfgfbeollpaa.Bytes Go.Proofs.Ythcjfgfbeollpaa.P07 Go.Proofs.Ythcjfgfbeollpaa.P08
open Go.Proofs.Ythcjfgfbeollpaa.Sets (ST)

/-- The k-th part, at its address. -/
theorem sub_ad {w : World} {a : Option Addr} {L : List T} (h : Lie w (fun _ => True) a L) {i : Nat} {s : T} (hs : L[i]? = some s) :
    ∃ bl off a1 e1, a = some ⟨bl, off, none⟩ ∧ Lie w (fun _ => True) a1 s.subs ∧ NodeP w bl (off + i * 8) s a1 e1 := by
  obtain ⟨bl, off, a1, e1, rfl, -, hbl, -, L1, C1⟩ := h.get hs
  exact ⟨bl, off, a1, e1, rfl, L1, ⟨hbl, C1⟩⟩

def WideOk (t : T) : Prop := ∀ (d : Nat), RT d t → ∀ (bl o : Nat) (a : Option Addr) (c : Nat) (w : World), NodeP w bl o t a c → Lie w (fun _ => True) a t.subs →
    Calls Try.prog 76 #[.pointer (some ⟨bl, o, none⟩)] w fun e w' => e = .returned (.int .i64 (wd t)) ∧ Keep (fun _ => False) w w'
set_option maxRecDepth 100000 in
set_option maxHeartbeats 4000000 in
theorem cwide_low (n : Nat) (ih : ∀ t : T, SizeOf.sizeOf t < n → WideOk t) (t : T) (h : SizeOf.sizeOf t < n + 1) (hk5 : ¬ t.kind = 5) : WideOk t := fun d hR bl o a c w hP hL => by
    have hlen := hL.len
    have H0 := Lib.hid (And.intro hP (And.intro hL ih))
    have e := wd_eq t
    obtain ⟨A, hA⟩ : ∃ A, wd t = A := ⟨_, rfl⟩
    rw [hA] at e ⊢
    obtain ⟨m0, m1, x0, x1⟩ := times_bare hR
    have hpre := fun i => wdL_bnd (t.subs.take i) d t.kind (RL_take t.subs i hR.subs) t.mn t.mx m0 x0 1 (by omega) (by omega)
    have hsub := fun (s : T) (i : Nat) (h : t.subs[i]? = some s) => sub_RT hR h
    have b5 : (t.kind == 5) = false := by simp [hk5]
    have hws : ∀ W, wstep t.kind t.mn t.mx W = W := fun W => by
      unfold wstep
      rw [if_neg (by omega), if_neg hk5]
    have HE := Lib.hid (And.intro e (And.intro hsub (And.intro hpre hws)))
    have HN := Lib.hid h
    obtain ⟨c0, -, -, -, -, -, -, c7⟩ := hP.eight
    clear hL hP e hA h hR hpre hsub hws m0 m1 x0 x1 hk5
    go_enter Try.func76, Try.ntmps76
    go_wp2_with fail
    clear c0 c7
    go_loopg [3, 4, 31] t.subs.length (fun gg m s4 i wr => ∃ (k : Nat) (M : Int), i = .int .i64 k ∧ k + gg = t.subs.length ∧ m = .int .i64 M ∧ M = wdL t.kind t.mn t.mx 1 (t.subs.take k) ∧ Keep (fun _ => False) w wr)
    case atStart => exact ⟨0, 1, rfl, by omega, rfl, by rw [List.take_zero, wdL], Keep.refl _ _⟩
    case round =>
      obtain ⟨k, M, rfl, hk, rfl, hM, hq⟩ := hrel
      obtain ⟨-, -, -, -, -, -, -, c7⟩ := (H0.out.1.keepF hq).eight
      by_cases hlt : k < t.subs.length
      · have hlt' : (k : Int) < t.subs.length := by omega
        have i0 : (0 : Int) ≤ k := by omega
        obtain ⟨s, hs⟩ : ∃ s, t.subs[k]? = some s := ⟨t.subs[k], List.getElem?_eq_getElem hlt⟩
        obtain ⟨b2, off, a1, e1, rfl, L1, N1⟩ := sub_ad H0.out.2.1 hs
        have hsl := sub_less hs
        have ht := wdL_take (k := t.kind) (mn := t.mn) (mx := t.mx) (acc := 1) hs
        rw [HE.out.2.2.2, ← hM] at ht
        have hRs := HE.out.2.1 s k hs
        have hb := wd_bnd s d hRs
        have hMb := HE.out.2.2.1 k
        rw [← hM] at hMb
        have hcall := H0.out.2.2 s (by have := HN.out; omega) d hRs b2 (off + k * 8) a1 e1 wr (N1.keepF hq) (L1.keepF hq)
        obtain ⟨Y, hY⟩ : ∃ Y, wd s = Y := ⟨_, rfl⟩
        rw [hY] at hcall ht hb
        have HQ := Lib.hid (And.intro hq (And.intro hcall ht))
        clear hq hcall ht hM hs hY L1 N1 hRs
        go_wp2_with fail
        refine HQ.out.2.1.mono ?_
        rintro e w2 ⟨rfl, q2⟩
        have Q2 := Lib.hid (HQ.out.1.trans q2)
        clear q2 c7
        go_wp2_with fail
        go_roundg (t.subs.length - (k + 1))
        case measure => omega
        case rel => exact ⟨k + 1, min (M + Y) 1073741824, by go_num, by omega, by go_num, HQ.out.2.2.symm, Q2.out⟩
      · have hke : k = t.subs.length := by omega
        subst hke
        rw [List.take_length] at hM
        have HQ := Lib.hid (And.intro hq hM)
        clear hq hM
        go_wp2_with fail
        go_ret
        exact ⟨by rw [HE.out.1, HQ.out.2]; rfl, HQ.out.1⟩
set_option maxRecDepth 100000 in
set_option maxHeartbeats 4000000 in
theorem cwide_five (n : Nat) (ih : ∀ t : T, SizeOf.sizeOf t < n → WideOk t) (t : T) (h : SizeOf.sizeOf t < n + 1) (hk : t.kind = 5) : WideOk t := fun d hR bl o a c w hP hL => by
    obtain ⟨s, hsub, m0, m1, hxx, hra⟩ := kind5_one hR hk
    have hs : t.subs[0]? = some s := by rw [hsub]; rfl
    have hl1 : t.subs.length = 1 := by rw [hsub]; rfl
    have hRs := sub_RT hR hs
    have hb := wd_bnd s d hRs
    have e : wd t = min (1 + wstep 5 t.mn t.mx (wd s)) 1073741824 := by rw [wd_eq, hsub, hk, wdL, wdL]
    have hsl := sub_less hs
    obtain ⟨b2, off, a1, e1, ha, L1, N1⟩ := sub_ad hL hs
    rw [Nat.zero_mul, Nat.add_zero] at N1
    have hcall := fun W' (hq : Keep (fun _ => False) w W') => ih s (by omega) d hRs b2 off a1 e1 W' (N1.keepF hq) (L1.keepF hq)
    have hwt : ∀ W', Calls Try.prog 95 #[.int .i64 (wd s), .int .i64 t.mn, .int .i64 t.mx] W' fun e w' => e = .returned (.int .i64 (1 + wstep 5 t.mn t.mx (wd s))) ∧ Keep (fun _ => False) W' w' := fun W' => (wtimes_is hb.1 hb.2 m0 m1 (show t.mx = -1 ∨ 0 ≤ t.mx by omega) (by omega) rfl W').mono fun e w' h => ⟨h.1, by rw [← h.2]; exact Keep.refl _ _⟩
    obtain ⟨Y, hY⟩ : ∃ Y, wd s = Y := ⟨_, rfl⟩
    rw [hY] at hcall hwt e
    obtain ⟨Z, hZ⟩ : ∃ Z, 1 + wstep 5 t.mn t.mx Y = Z := ⟨_, rfl⟩
    rw [hZ] at hwt e
    rw [e]
    have b5 : (t.kind == 5) = true := by simp [hk]
    have H0 := Lib.hid (And.intro hP (And.intro hcall hwt))
    have hS : ∀ w', Keep (fun _ => False) w w' → Keep (fun _ => False) w w' ∧ w'.cell? ⟨bl, o + 5, none⟩ = some (.int .i64 t.mn) ∧ w'.cell? ⟨bl, o + 6, none⟩ = some (.int .i64 t.mx) ∧ w'.cell? ⟨bl, o + 7, none⟩ = some (.slice a t.subs.length c) := fun w' q' => by
      obtain ⟨-, -, -, -, -, c5, c6, c7⟩ := (hP.keepF q').eight
      exact ⟨q', c5, c6, c7⟩
    subst ha
    rw [hl1] at hS
    have HS := Lib.hid hS
    obtain ⟨c0, -, -, -, -, c5, c6, c7⟩ := hP.eight
    rw [hl1] at c7
    clear hcall hwt hY hZ e L1 N1 hRs hb hsub hs m0 m1 hxx hra hk hR hP hL h ih hsl hS
    go_enter Try.func76, Try.ntmps76
    go_wp2_with fail
    go_region_held3 (fun w' => Keep (fun _ => False) w w' ∧ w'.cell? ⟨bl, o + 5, none⟩ = some (.int .i64 t.mn) ∧ w'.cell? ⟨bl, o + 6, none⟩ = some (.int .i64 t.mx) ∧ w'.cell? ⟨bl, o + 7, none⟩ = some (.slice (some ⟨b2, off, none⟩) 1 c)) (first | assumption | exact HS.out _ ((Keep.refl _ _).drew) | exact HS.out _ (Keep.trans (And.left (by assumption)) q)) (first
      | (go_at_call 76; refine (H0.out.2.1 _ (And.left (by assumption))).mono ?_; rintro e w4 ⟨rfl, q⟩)
      | (go_at_call 95; refine (H0.out.2.2 _).mono ?_; rintro e w5 ⟨rfl, q⟩))
    all_goals
      rename_i hh
      have HK := Lib.hid hh.1
      clear hh
      go_wp2_with fail
      go_ret
      exact ⟨rfl, HK.out⟩
theorem cwide_all : ∀ (n : Nat) (t : T), SizeOf.sizeOf t < n → WideOk t
  | 0, _, h => absurd h (Nat.not_lt_zero _)
  | n + 1, t, h => by
    by_cases hk : t.kind = 5
    · exact cwide_five n (cwide_all n) t h hk
    · exact cwide_low n (cwide_all n) t h hk
end Go.Proofs.Ythcjfgfbeollpaa.P09
/- The code's right and Right (layer 8). -/
namespace Go.Proofs.Ythcjfgfbeollpaa.P08
open Go.RowKit Go.Proofs.Ythcjfgfbeollpaa.Base Go.Proofs.Ythcjfgfbeollpaa.Bytes Go.Proofs.Ythcjfgfbeollpaa.P07
open Go.Proofs.Ythcjfgfbeollpaa.Sets (ST)

set_option maxRecDepth 100000 in
set_option maxHeartbeats 4000000 in
theorem cright_step (n : Nat) (ih : ∀ (t : T), SizeOf.sizeOf t < n → ∀ (d : Nat) (op : Int), 0 ≤ op → op + d = 13 → ∀ (bl o : Nat) (a : Option Addr) (c : Nat) (w : World), NodeP w bl o t a c → Lie w (fun _ => True) a t.subs → Calls Try.prog 75 #[.pointer (some ⟨bl, o, none⟩), .int .i64 op] w fun e w' => e = .returned (.bool (rgt d t)) ∧ Keep (fun _ => False) w w')
    (t : T) (hn : SizeOf.sizeOf t < n + 1) (d : Nat) (op : Int) (ho : 0 ≤ op) (hop : op + d = 13) (bl o : Nat) (a : Option Addr) (c : Nat) (w : World) (hP : NodeP w bl o t a c) (hL : Lie w (fun _ => True) a t.subs) :
    Calls Try.prog 75 #[.pointer (some ⟨bl, o, none⟩), .int .i64 op] w fun e w' => e = .returned (.bool (rgt d t)) ∧ Keep (fun _ => False) w w' := by
  have hlen := hL.len
  match d, hop with
  | 0, hop =>
    have h1 : 12 < op := by omega
    rw [rgt_zero]
    clear ih hP hL hlen hop hn
    go_enter Try.func75, Try.ntmps75
    go_wp2_with fail
    go_ret
    exact ⟨rfl, Keep.refl _ _⟩
  | d + 1, hop =>
    have h1 : ¬ 12 < op := by omega
    obtain ⟨B, hB⟩ : ∃ B, bareB t = B := ⟨_, rfl⟩
    obtain ⟨D, hD⟩ : ∃ D, rgtL d t.kind t.subs = D := ⟨_, rfl⟩
    rw [rgt_succ, hB, hD]
    have hF := fields_any t bl o a c w hP
    rw [hB] at hF
    have H0 := Lib.hid (And.intro hP (And.intro hL (And.intro ih (And.intro hD hF))))
    clear hP hL ih hD hF hB
    go_enter Try.func75, Try.ntmps75
    go_wp2_with fail
    refine H0.out.2.2.2.2.mono ?_
    rintro e w1 ⟨rfl, q1⟩
    have Q1 := Lib.hid q1
    cases B with
    | false =>
      clear q1
      go_wp2_with fail
      go_ret
      exact ⟨rfl, Q1.out⟩
    | true =>
      have hP1 := H0.out.1.keepF q1
      obtain ⟨c0, -, -, -, -, -, -, c7⟩ := hP1.eight
      have HP1 := Lib.hid hP1
      clear q1 hP1
      go_wp2_with fail
      clear c0 c7
      go_loopg [5, 6, 19] t.subs.length (fun gg s5 s6 i wr => ∃ k : Nat, i = .int .i64 k ∧ k + gg = t.subs.length ∧ rgtL d t.kind (t.subs.take k) = true ∧ Keep (fun _ => False) w1 wr)
      case atStart => exact ⟨0, rfl, by omega, by rw [List.take_zero, rgtL], Keep.refl _ _⟩
      case round =>
        obtain ⟨k, rfl, hk, h0, hq⟩ := hrel
        obtain ⟨c0, -, -, -, -, -, -, c7⟩ := (HP1.out.keepF hq).eight
        by_cases hlt : k < t.subs.length
        · have hlt' : (k : Int) < t.subs.length := by omega
          obtain ⟨s, hs⟩ : ∃ s, t.subs[k]? = some s := ⟨t.subs[k], List.getElem?_eq_getElem hlt⟩
          have LL := Lib.hid (H0.out.2.1.keepF (Q1.out.trans hq))
          obtain ⟨b2, off, a1, e1, rfl, -, hbl, -, L1, C1⟩ := LL.out.get hs
          have N1 : NodeP wr b2 (off + k * 8) s a1 e1 := ⟨hbl, C1⟩
          obtain ⟨d0, -⟩ := N1.eight
          have hsl := sub_less hs
          obtain ⟨r, hr⟩ : ∃ r, rnd t.kind s.kind = r := ⟨_, rfl⟩
          obtain ⟨ans, hans⟩ : ∃ x, rgt (if r then d else d + 1) s = x := ⟨_, rfl⟩
          have hcall := fun (m : Nat) => H0.out.2.2.1 s (by omega) (if r then d else d + 1) (if r then op + 1 else op) (by cases r <;> simp <;> omega) (by cases r <;> simp <;> omega) b2 (off + k * 8) a1 e1 (wr.drewN m) (N1.keepF ((Keep.refl _ _).drewN m)) (L1.keepF ((Keep.refl _ _).drewN m))
          rw [hans] at hcall
          have HA := Lib.hid (And.intro hr (And.intro hans (And.intro hs (And.intro hq (And.intro h0 hcall)))))
          have i0 : (0 : Int) ≤ k := by omega
          have j1 : IntKind.i64.wrap (op + 1) = op + 1 := by rw [IntKind.wrap_i64]; omega
          clear hr hans hs hq h0 hcall N1 L1 C1
          go_wp2_with fail
          go_quiet ((go_at_call 94; exact quiet_same (brk_is HA.out.1 _)))
          cases r
          all_goals
            go_wp2_with fail
            refine (HA.out.2.2.2.2.2 _).mono ?_
            rintro e w2 ⟨rfl, q2⟩
            have HQ := Lib.hid (HA.out.2.2.2.1.trans (((Keep.refl _ _).drewN nq).trans q2))
            clear q2
            cases ans
            · have HD : D = false := by
                rw [← H0.out.2.2.2.1]
                exact rgtL_not t.subs k s HA.out.2.2.1 (by rw [HA.out.1]; exact HA.out.2.1)
              subst HD
              go_wp2_with fail
              go_ret
              exact ⟨rfl, Q1.out.trans HQ.out⟩
            · have HK := Lib.hid (rgtL_take t.subs k s HA.out.2.2.1 HA.out.2.2.2.2.1 (by rw [HA.out.1]; exact HA.out.2.1))
              go_wp2_with fail
              go_roundg (t.subs.length - (k + 1))
              case measure => omega
              case rel => exact ⟨k + 1, by go_num, by omega, HK.out, HQ.out⟩
        · have hke : k = t.subs.length := by omega
          subst hke
          rw [List.take_length] at h0
          have HD : D = true := by rw [← H0.out.2.2.2.1]; exact h0
          subst HD
          have HQ := Lib.hid hq
          clear hq h0
          go_wp2_with fail
          go_ret
          exact ⟨rfl, Q1.out.trans HQ.out⟩
theorem cright_all : ∀ (n : Nat) (t : T), SizeOf.sizeOf t < n → ∀ (d : Nat) (op : Int), 0 ≤ op → op + d = 13 → ∀ (bl o : Nat) (a : Option Addr) (c : Nat) (w : World), NodeP w bl o t a c → Lie w (fun _ => True) a t.subs → Calls Try.prog 75 #[.pointer (some ⟨bl, o, none⟩), .int .i64 op] w fun e w' => e = .returned (.bool (rgt d t)) ∧ Keep (fun _ => False) w w'
  | 0, _, h => absurd h (Nat.not_lt_zero _)
  | n + 1, t, h => fun d op ho hop bl o a c w hP hL => cright_step n (cright_all n) t h d op ho hop bl o a c w hP hL

set_option maxRecDepth 100000 in
/-- THE CODE'S RIGHT. -/
theorem cRight_any (t : T) (hs : SOk t) (a : Option Addr) (c : Nat) (w : World) (hL : Lie w (fun _ => True) a t.subs) : Calls Try.prog 53 #[nodeV t a c] w fun e w' => e = .returned (.bool (rightB t)) ∧ Keep (fun _ => False) w w' := by
  have a0 := At.new w (ncells t a c) 27
  have q := (Keep.refl (fun _ => False) w).alloc (.cells (ncells t a c) 27)
  have hcall := cright_all _ t (Nat.lt_succ_self _) 13 0 (by decide) (by decide) w.heap.size 0 a c _ (NodeP.of_at a0) (hL.keepF q)
  rw [rgt_right hs] at hcall
  obtain ⟨r, hr⟩ : ∃ r, rightB t = r := ⟨_, rfl⟩
  rw [hr] at hcall ⊢
  have HQ := Lib.hid (And.intro hcall q)
  clear hcall q hr a0
  go_enter Try.func53, Try.ntmps53
  go_wp2_with fail
  refine HQ.out.1.mono ?_
  rintro e w1 ⟨rfl, q1⟩
  have HQ1 := Lib.hid (HQ.out.2.trans q1)
  clear q1
  go_wp2
  go_ret
  exact ⟨rfl, HQ1.out⟩
end Go.Proofs.Ythcjfgfbeollpaa.P08
/- What bounds the shortest and the longest length of a plain expression: its nodes alone (layer 13). -/
namespace Go.Proofs.Ythcjfgfbeollpaa.P13
open Go.Proofs.Ythcjfgfbeollpaa.P07 Go.Proofs.Ythcjfgfbeollpaa.P08 Go.Proofs.Ythcjfgfbeollpaa.P09 Go.Proofs.Ythcjfgfbeollpaa.Bytes
open Go.Proofs.Ythcjfgfbeollpaa.Sets (ST)

theorem fld_five {t : T} (h : isP t = true) (k : t.kind = 5) : t.mn = 0 ∧ t.mx = -1 := by
  rw [isP_eq, Bool.and_eq_true] at h
  have h := h.1
  unfold fldP at h
  simp only [Bool.and_eq_true, Bool.or_eq_true, decide_eq_true_eq] at h
  omega
theorem sumP : ∀ (l : List T), (∀ t ∈ l, leastI t ≤ bnd 0 (cnt t)) → ∀ acc : Int, sumLe acc l ≤ acc + bnd 0 (cntL l)
  | [], _, acc => by rw [sumLe]; omega
  | t :: l, h, acc => by
    rw [sumLe, cntL]
    have h1 := h t (by simp)
    have h2 := sumP l (fun u hu => h u (List.mem_cons_of_mem _ hu)) (acc + leastI t)
    have h3 := bnd_add 0 (cnt t) (cntL l)
    omega
theorem minP : ∀ (l : List T), (∀ t ∈ l, leastI t ≤ bnd 0 (cnt t)) → ∀ acc B : Int, acc ≤ B → (bnd 0 (cntL l) : Int) ≤ B → minLe acc l ≤ B
  | [], _, acc, B, h0, _ => by rw [minLe]; exact h0
  | t :: l, h, acc, B, h0, hB => by
    rw [cntL] at hB
    have h1 := h t (by simp)
    have h3 := bnd_add 0 (cnt t) (cntL l)
    rw [minLe]
    exact minP l (fun u hu => h u (List.mem_cons_of_mem _ hu)) _ B (by split <;> omega) (by omega)
theorem least_plain : ∀ (n : Nat) (t : T), SizeOf.sizeOf t < n → isP t = true → leastI t ≤ bnd 0 (cnt t)
  | 0, _, h, _ => absurd h (Nat.not_lt_zero _)
  | n + 1, t, h, hp => by
    have ih : ∀ u ∈ t.subs, leastI u ≤ bnd 0 (cnt u) := fun u hu => least_plain n u (by have := subs_lt hu; omega) (isP_subs hp u hu)
    have hg := bnd_ge 0 (cnt t)
    have hc := cnt_eq t
    have hm := bnd_mono (Nat.le_refl 0) (show cntL t.subs ≤ cnt t by omega)
    rw [leastI_eq]
    split
    · omega
    · split
      · omega
      · split
        · have := sumP t.subs ih 0
          omega
        · split
          · exact minP t.subs ih (-1) _ (by omega) (by omega)
          · split
            · rename_i h5
              have := fld_five hp h5.1
              omega
            · omega
theorem least_p {t : T} (hp : isP t = true) : leastI t ≤ bnd 0 (cnt t) := least_plain _ t (Nat.lt_succ_self _) hp
theorem sum_bndP (l : List T) (d : Nat) (k : Int) (hl : RL d k l) (hp : ∀ t ∈ l, isP t = true) (hn : anyN l = false) (acc : Int) (h0 : 0 ≤ acc) : acc ≤ sumLe acc l ∧ sumLe acc l ≤ acc + bnd 0 (cntL l) :=
  ⟨(sum_bnd l d k hl hn acc h0).1, sumP l (fun t ht => least_p (hp t ht)) acc⟩
theorem mostP : ∀ (l : List T) (k : Int), (∀ t ∈ l, mostI t ≤ bnd 0 (cnt t)) → ∀ acc : Int, 0 ≤ acc → mostL k acc l ≤ acc + bnd 0 (cntL l)
  | [], k, _, acc, _ => by rw [mostL]; omega
  | t :: l, k, h, acc, h0 => by
    rw [mostL, cntL]
    have h1 := h t (by simp)
    have h3 := bnd_add 0 (cnt t) (cntL l)
    have ih := mostP l k (fun u hu => h u (List.mem_cons_of_mem _ hu))
    split
    · have := ih acc h0
      omega
    · split
      · omega
      · obtain ⟨X, hX⟩ : ∃ X, (if k = 3 then acc + mostI t else max acc (mostI t)) = X := ⟨_, rfl⟩
        rw [hX]
        have hx : 0 ≤ X ∧ X ≤ acc + mostI t := by
          rw [← hX]
          split <;> omega
        have := ih X hx.1
        omega
theorem most_plain : ∀ (n : Nat) (t : T), SizeOf.sizeOf t < n → isP t = true → mostI t ≤ bnd 0 (cnt t)
  | 0, _, h, _ => absurd h (Nat.not_lt_zero _)
  | n + 1, t, h, hp => by
    have ih : ∀ u ∈ t.subs, mostI u ≤ bnd 0 (cnt u) := fun u hu => most_plain n u (by have := subs_lt hu; omega) (isP_subs hp u hu)
    have hg := bnd_ge 0 (cnt t)
    have hc := cnt_eq t
    have hm := bnd_mono (Nat.le_refl 0) (show cntL t.subs ≤ cnt t by omega)
    rw [mostI_eq]
    split
    · omega
    · split
      · omega
      · split
        · have := mostP t.subs t.kind ih 0 (Int.le_refl 0)
          omega
        · split
          · rename_i h5
            have h6 := fld_five hp h5
            split
            · omega
            · split
              · omega
              · rw [if_pos (.inr (by omega))]
                omega
          · omega
theorem most_p {t : T} (hp : isP t = true) : mostI t ≤ bnd 0 (cnt t) := most_plain _ t (Nat.lt_succ_self _) hp
theorem mostL_bndP (l : List T) (d : Nat) (k : Int) (hl : RL d k l) (hp : ∀ t ∈ l, isP t = true) (acc : Int) (h0 : 0 ≤ acc) : -1 ≤ mostL k acc l ∧ mostL k acc l ≤ acc + bnd 0 (cntL l) :=
  ⟨(mostL_bnd l d k hl acc h0).1, mostP l k (fun t ht => most_p (hp t ht)) acc h0⟩
end Go.Proofs.Ythcjfgfbeollpaa.P13
