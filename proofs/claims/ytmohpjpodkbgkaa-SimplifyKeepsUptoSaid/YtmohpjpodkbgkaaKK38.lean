/- The document's Text (layer 8). -/
import Derived.Test.YtmohpjpodkbgkaaKK31
import Derived.Test.YtmohpjpodkbgkaaKK24
import Derived.Test.YtmohpjpodkbgkaaKK27
namespace Go.Proofs.Ytmohpjpodkbgkaa.P08
open Go.RowKit Go.Proofs.Ytmohpjpodkbgkaa.Base Go.Proofs.Ytmohpjpodkbgkaa.P07
open Go.Proofs.Ytmohpjpodkbgkaa.Sets (ST rgs rgs_ok rgs_le)
open Go.Proofs.Ytmohpjpodkbgkaa.Bytes (val)

/-! The same class, as layer 4 has it. -/
theorem esc_eq : ∀ b, b < 256 → P08.esc b = Bytes.esc b := by decide +kernel
theorem spanT_eq {a b : Nat} (h : a ≤ b) (hb : b < 256) : P08.spanT a b = Bytes.spanT a b := by
  unfold P08.spanT Bytes.spanT
  rw [esc_eq a (by omega), esc_eq b hb]
theorem spansT_eq : ∀ L : List (Nat × Nat), (∀ r, r ∈ L → r.1 ≤ r.2 ∧ r.2 < 256) → P08.spansT L = Bytes.spansT L
  | [], _ => rfl
  | r :: L, h => by
    have h1 := h r (by simp)
    rw [spansT_cons, spansT_eq L fun x hx => h x (List.mem_cons_of_mem _ hx), spanT_eq h1.1 h1.2]
    simp [Bytes.spansT]
theorem textT_eq {s : ST} (hs : s.Ok) : P08.textT s = Bytes.textT s := by
  unfold P08.textT Bytes.textT
  rw [spansT_eq _ (rgs_ok s.has 256).ord, spansT_eq _ (rgs_ok s.not.has 256).ord]
  by_cases h : s.count = 1
  · rw [esc_eq _ (single hs h).1]
  · rw [if_neg h, if_neg h]
theorem textT_len {s : ST} (hs : s.Ok) : (P08.textT s).length ≤ 2310 := by
  rw [textT_eq hs]
  unfold Bytes.textT
  have h1 := Bytes.spansT_len (rgs s.has 256)
  have h2 := rgs_le s.has 256
  have h3 := Bytes.spansT_len (rgs s.not.has 256)
  have h4 := rgs_le s.not.has 256
  split
  · simp
  · split
    · have := Bytes.esc_len (Sets.nxt s.has 0)
      omega
    · split
      · simp
        omega
      · simp
        omega
theorem times_len (lo hi : Int) : (times lo hi).length ≤ 7 := by
  unfold times
  have h1 := num_len lo.toNat
  have h2 := num_len hi.toNat
  split
  · simp
  · split
    · simp
    · split
      · simp
      · split
        · simp
          omega
        · split
          · simp
            omega
          · simp
            omega
theorem br_le (b : Bool) (u : List UInt8) : (br b u).length ≤ u.length + 2 := by
  cases b
  · simp [br]
  · simp [br]
mutual
/-- How long a text may be. -/
theorem txt_len : ∀ t : T, SOk t → (txt t).length + 3 ≤ 2400 * cnt t
  | .nd k s mn mx l, h => by
    rw [SOk] at h
    rw [txt_eq, cnt]
    have h1 := textT_len h.1
    have h2 := times_len mn mx
    have h3 := subT_len l k true h.2
    split
    · omega
    · rw [List.length_append]
      split
      · omega
      · simp
        omega
theorem subT_len : ∀ (l : List T) (k : Int) (b : Bool), SOkL l → (subT k b l).length ≤ 2400 * cntL l
  | [], k, b, _ => by rw [subT_nil]; simp
  | t :: l, k, b, h => by
    obtain ⟨h1, h2⟩ := SOk_cons h
    have h3 := txt_len t h1
    have h4 := subT_len l k false h2
    have h5 := br_le (rnd k t.kind) (txt t)
    rw [subT_cons, cntL, List.length_append, List.length_append]
    split
    · simp
      omega
    · simp
      omega
end
theorem subT_append (k : Int) : ∀ (L : List T) (b : Bool) (t : T), subT k b (L ++ [t]) = subT k b L ++ ((if k = 4 ∧ (b = false ∨ L ≠ []) then [124] else []) ++ br (rnd k t.kind) (txt t))
  | [], b, t => by
    rw [List.nil_append, subT_cons, subT_nil, subT_nil, List.append_nil, List.nil_append]
    simp
  | s :: L, b, t => by
    rw [List.cons_append, subT_cons, subT_append k L false t, subT_cons]
    simp
end Go.Proofs.Ytmohpjpodkbgkaa.P08
/- The document's Text (layer 8): the walk. -/
namespace Go.Proofs.Ytmohpjpodkbgkaa.P08
open Go.RowKit Go.Proofs.Ytmohpjpodkbgkaa.Base Go.Proofs.Ytmohpjpodkbgkaa.P07
open Go.Proofs.Ytmohpjpodkbgkaa.Sets (ST)
open Go.Proofs.Ytmohpjpodkbgkaa.Bytes (val)

/-- The text up to the i-th part, and one more. -/
theorem subT_take {k : Int} {L : List T} {i : Nat} {s : T} (h : L[i]? = some s) : subT k true (L.take (i + 1)) = subT k true (L.take i) ++ ((if k = 4 ∧ i ≠ 0 then [124] else []) ++ br (rnd k s.kind) (txt s)) := by
  have hi : i < L.length := by
    rcases Nat.lt_or_ge i L.length with h1 | h1
    · exact h1
    · rw [List.getElem?_eq_none h1] at h
      cases h
  rw [List.take_add_one, h]
  show subT k true (L.take i ++ [s]) = _
  rw [subT_append]
  by_cases h0 : i = 0
  · subst h0
    simp
  · have : L.take i ≠ [] := by
      intro e
      have := congrArg List.length e
      rw [List.length_take] at this
      simp at this
      rcases this with h1 | h1
      · exact h0 h1
      · rw [h1] at hi
        simp at hi
    simp [h0, this]
theorem subT_pre (k : Int) (b : Bool) : ∀ (L : List T) (i : Nat), (subT k b (L.take i)).length ≤ (subT k b L).length
  | [], i => by simp
  | t :: L, 0 => by rw [List.take_zero, subT_nil]; exact Nat.zero_le _
  | t :: L, i + 1 => by
    rw [List.take_succ_cons, subT_cons, subT_cons, List.length_append, List.length_append, List.length_append, List.length_append]
    have := subT_pre k false L i
    omega
theorem txt_kind2 {t : T} (h : t.kind = 2) : txt t = textT t.set := by
  cases t
  change _ = 2 at h
  rw [txt_eq]
  exact if_pos h
theorem txt_sub {t : T} (h : t.kind ≠ 2) : txt t = subT t.kind true t.subs ++ (if t.kind = 5 then times t.mn t.mx else []) := by
  cases t
  change _ ≠ 2 at h
  rw [txt_eq]
  exact if_neg h

set_option maxRecDepth 100000 in
set_option maxHeartbeats 2000000 in
theorem ftext_step (n : Nat) (ih : ∀ (t : T), SizeOf.sizeOf t < n → cnt t ≤ 1000000 → ∀ (d : Nat), RT d t → ∀ (a : Option Addr) (c : Nat) (w : World), Lie w (fun _ => True) a t.subs → Calls Try.prog 17 #[nodeV t a c] w fun e w' => e = .returned (Bytes.str (txt t)) ∧ Keep (fun _ => False) w w')
    (t : T) (hn : SizeOf.sizeOf t < n + 1) (hc : cnt t ≤ 1000000) (d : Nat) (hR : RT d t) (a : Option Addr) (c : Nat) (w : World) (hL : Lie w (fun _ => True) a t.subs) :
    Calls Try.prog 17 #[nodeV t a c] w fun e w' => e = .returned (Bytes.str (txt t)) ∧ Keep (fun _ => False) w w' := by
  have hlen := hL.len
  have a0 := At.new w (ncells t a c) 27
  have q := (Keep.refl (fun _ => False) w).alloc (.cells (ncells t a c) 27)
  by_cases hk : t.kind = 2
  · obtain ⟨s, hs, e, he⟩ := kind2 hR hk
    have ht : txt t = Bytes.textT t.set := by
      rw [he, textT_eq hs]
      rw [e]
      rfl
    have hso : t.set.Ok := by rw [e]; exact hs
    have HE := Lib.hid (And.intro ht q)
    have ek : (t.kind == 2) = true := by simp [hk]
    clear hk e he ht q hL ih hR hs
    go_enter Try.func17, Try.ntmps17
    go_wp2_with fail
    refine (Bytes.rtext_any t.set hso _).mono ?_
    rintro e w1 ⟨rfl, q1⟩
    have HQ := Lib.hid (HE.out.2.trans q1)
    clear q1
    go_wp2
    go_ret
    exact ⟨by rw [HE.out.1]; rfl, HQ.out⟩
  · have ek : (t.kind == 2) = false := by simp [hk]
    have hsok := RT_sok t d hR
    have hsl : SOkL t.subs := by
      cases t
      rw [SOk] at hsok
      exact hsok.2
    have hcl : cntL t.subs ≤ 1000000 := by rw [cnt_eq] at hc; omega
    have hbl : ∀ k, (subT t.kind true (t.subs.take k)).length ≤ 2400000000 := fun k => by
      have h1 := subT_pre t.kind true t.subs k
      have h2 := subT_len t.subs t.kind true hsl
      omega
    have hsub := fun (s : T) (i : Nat) (h : t.subs[i]? = some s) => RL_get hR.subs h
    have H0 := Lib.hid (And.intro a0 (And.intro q (And.intro hL ih)))
    have HD := Lib.hid (And.intro hbl (And.intro (txt_sub hk) (And.intro hR hsub)))
    clear q hL hbl ih hsub hR hsl hsok
    have hnn := hn
    clear hn hk
    go_enter Try.func17, Try.ntmps17
    go_wp2_with fail
    generalize (w.alloc (.cells (ncells t a c) 27)) = W at *
    go_loopg [3, 4] t.subs.length (fun gg u i wr => ∃ (k : Nat) (U : List UInt8), i = .int .i64 k ∧ k + gg = t.subs.length ∧ u = Bytes.str U ∧ U = subT t.kind true (t.subs.take k) ∧ Keep (fun _ => False) W wr)
    case atStart => exact ⟨0, [], rfl, by omega, rfl, by rw [List.take_zero, subT_nil], Keep.refl _ _⟩
    case round =>
      obtain ⟨k, U, rfl, hk, rfl, hU, hq⟩ := hrel
      have A0 := a0.keep hq (fun h => h)
      have c0 : wr.cell? ⟨w.heap.size, 0, none⟩ = some (.int .i64 t.kind) := A0.cell (o := 0) rfl
      have c1 : wr.cell? ⟨w.heap.size, 1, none⟩ = some (.int .u64 t.set.x0) := A0.cell (o := 1) rfl
      have c2 : wr.cell? ⟨w.heap.size, 2, none⟩ = some (.int .u64 t.set.x1) := A0.cell (o := 2) rfl
      have c3 : wr.cell? ⟨w.heap.size, 3, none⟩ = some (.int .u64 t.set.x2) := A0.cell (o := 3) rfl
      have c4 : wr.cell? ⟨w.heap.size, 4, none⟩ = some (.int .u64 t.set.x3) := A0.cell (o := 4) rfl
      have c5 : wr.cell? ⟨w.heap.size, 5, none⟩ = some (.int .i64 t.mn) := A0.cell (o := 5) rfl
      have c6 : wr.cell? ⟨w.heap.size, 6, none⟩ = some (.int .i64 t.mx) := A0.cell (o := 6) rfl
      have c7 : wr.cell? ⟨w.heap.size, 7, none⟩ = some (.slice a t.subs.length c) := A0.cell (o := 7) rfl
      have hm := HD.out.1 k
      rw [← hU] at hm
      by_cases hlt : k < t.subs.length
      · have hlt' : (k : Int) < t.subs.length := by omega
        obtain ⟨s, hs⟩ : ∃ s, t.subs[k]? = some s := ⟨t.subs[k], List.getElem?_eq_getElem hlt⟩
        have LL := Lib.hid (H0.out.2.2.1.keepF (H0.out.2.1.trans hq))
        obtain ⟨bl, off, a1, e1, rfl, -, hbl, -, L1, C1⟩ := LL.out.get hs
        obtain ⟨d0, d1, d2, d3, d4, d5, d6, d7⟩ := ncell C1
        have hsl := sub_less hs
        have hcs := cntL_le hs
        have hRs := HD.out.2.2.2 s k hs
        have hcall := H0.out.2.2.2 s (by omega) (by omega) d hRs a1 e1 wr L1
        have hVl := txt_len s (RT_sok s d hRs)
        obtain ⟨V, hV⟩ : ∃ V, txt s = V := ⟨_, rfl⟩
        have hpre := subT_take (k := t.kind) hs
        rw [← hU, hV] at hpre
        rw [hV] at hVl hcall
        have HQ := Lib.hid (And.intro hq (And.intro hcall (And.intro hpre (And.intro C1 hbl))))
        clear hq hcall hpre hs L1 C1 A0 hbl hU hV
        have i0 : (0 : Int) ≤ k := by omega
        go_wp2_with fail
        refine HQ.out.2.1.mono ?_
        rintro e w2 ⟨rfl, q2⟩
        have QQ := Lib.hid (And.intro (HQ.out.1.trans q2) q2)
        have A0 := a0.keep QQ.out.1 (fun h => h)
        have C2 := ncells_keep HQ.out.2.2.2.1 q2 HQ.out.2.2.2.2
        have hS : ∀ w', Keep (fun _ => False) w2 w' → Keep (fun _ => False) w2 w' ∧ w'.cell? ⟨w.heap.size, 0, none⟩ = some (.int .i64 t.kind) ∧ w'.cell? ⟨w.heap.size, 1, none⟩ = some (.int .u64 t.set.x0) ∧ w'.cell? ⟨w.heap.size, 2, none⟩ = some (.int .u64 t.set.x1) ∧ w'.cell? ⟨w.heap.size, 3, none⟩ = some (.int .u64 t.set.x2) ∧ w'.cell? ⟨w.heap.size, 4, none⟩ = some (.int .u64 t.set.x3) ∧ w'.cell? ⟨w.heap.size, 5, none⟩ = some (.int .i64 t.mn) ∧ w'.cell? ⟨w.heap.size, 6, none⟩ = some (.int .i64 t.mx) ∧ w'.cell? ⟨w.heap.size, 7, none⟩ = some (.slice (some ⟨bl, off, none⟩) t.subs.length c) ∧ w'.cell? ⟨bl, off + k * 8, none⟩ = some (.int .i64 s.kind) ∧ w'.cell? ⟨bl, off + k * 8 + 1, none⟩ = some (.int .u64 s.set.x0) ∧ w'.cell? ⟨bl, off + k * 8 + 2, none⟩ = some (.int .u64 s.set.x1) ∧ w'.cell? ⟨bl, off + k * 8 + 3, none⟩ = some (.int .u64 s.set.x2) ∧ w'.cell? ⟨bl, off + k * 8 + 4, none⟩ = some (.int .u64 s.set.x3) ∧ w'.cell? ⟨bl, off + k * 8 + 5, none⟩ = some (.int .i64 s.mn) ∧ w'.cell? ⟨bl, off + k * 8 + 6, none⟩ = some (.int .i64 s.mx) ∧ w'.cell? ⟨bl, off + k * 8 + 7, none⟩ = some (.slice a1 s.subs.length e1) := fun w' q' => by
          have e1 := fun j v h => (q'.cell (a := ⟨bl, off + k * 8 + j, none⟩) (World.block_lt_of_cell? w2 _ (C2 j v h)) (fun h => h)).trans (C2 j v h)
          have e0 := A0.keep q' (fun h => h)
          exact ⟨q', e0.cell (o := 0) rfl, e0.cell (o := 1) rfl, e0.cell (o := 2) rfl, e0.cell (o := 3) rfl, e0.cell (o := 4) rfl, e0.cell (o := 5) rfl, e0.cell (o := 6) rfl, e0.cell (o := 7) rfl, e1 0 _ rfl, e1 1 _ rfl, e1 2 _ rfl, e1 3 _ rfl, e1 4 _ rfl, e1 5 _ rfl, e1 6 _ rfl, e1 7 _ rfl⟩
        have HS := Lib.hid hS
        have HR := Lib.hid (fun W' => fround_any t s (some ⟨bl, off, none⟩) c a1 e1 W')
        obtain ⟨r, hr⟩ : ∃ r, rnd t.kind s.kind = r := ⟨_, rfl⟩
        have hpr := HQ.out.2.2.1
        rw [hr] at hpr HR
        have HP := Lib.hid hpr
        clear A0 q2 d0 d1 d2 d3 d4 d5 d6 d7 C2 hS hr hpr c0 c1 c2 c3 c4 c5 c6 c7
        go_wp2_with fail
        go_region_held3 (fun w' => Keep (fun _ => False) w2 w' ∧ w'.cell? ⟨w.heap.size, 0, none⟩ = some (.int .i64 t.kind) ∧ w'.cell? ⟨w.heap.size, 1, none⟩ = some (.int .u64 t.set.x0) ∧ w'.cell? ⟨w.heap.size, 2, none⟩ = some (.int .u64 t.set.x1) ∧ w'.cell? ⟨w.heap.size, 3, none⟩ = some (.int .u64 t.set.x2) ∧ w'.cell? ⟨w.heap.size, 4, none⟩ = some (.int .u64 t.set.x3) ∧ w'.cell? ⟨w.heap.size, 5, none⟩ = some (.int .i64 t.mn) ∧ w'.cell? ⟨w.heap.size, 6, none⟩ = some (.int .i64 t.mx) ∧ w'.cell? ⟨w.heap.size, 7, none⟩ = some (.slice (some ⟨bl, off, none⟩) t.subs.length c) ∧ w'.cell? ⟨bl, off + k * 8, none⟩ = some (.int .i64 s.kind) ∧ w'.cell? ⟨bl, off + k * 8 + 1, none⟩ = some (.int .u64 s.set.x0) ∧ w'.cell? ⟨bl, off + k * 8 + 2, none⟩ = some (.int .u64 s.set.x1) ∧ w'.cell? ⟨bl, off + k * 8 + 3, none⟩ = some (.int .u64 s.set.x2) ∧ w'.cell? ⟨bl, off + k * 8 + 4, none⟩ = some (.int .u64 s.set.x3) ∧ w'.cell? ⟨bl, off + k * 8 + 5, none⟩ = some (.int .i64 s.mn) ∧ w'.cell? ⟨bl, off + k * 8 + 6, none⟩ = some (.int .i64 s.mx) ∧ w'.cell? ⟨bl, off + k * 8 + 7, none⟩ = some (.slice a1 s.subs.length e1)) (first | exact HS.out _ ((Keep.refl _ _).drew) | exact HS.out _ (Keep.trans (And.left (by assumption)) q)) (first
          | (go_at_call 34; refine (HR.out _).mono ?_; rintro e w2 ⟨rfl, q⟩))
        all_goals
          rename_i hh
          have HK := Lib.hid (QQ.out.1.trans hh.1)
          have ck := hh.2.1
          clear hh
          have n1 : ¬ 9223372036854775807 < 1 + V.length := by omega
          have n2 : ¬ 9223372036854775807 < 1 + V.length + 1 := by omega
          have n3 : ¬ 9223372036854775807 < U.length + 1 := by omega
          have n4 : ¬ 9223372036854775807 < U.length + V.length := by omega
          have n5 : ¬ 9223372036854775807 < U.length + 1 + V.length := by omega
          have n6 : ¬ 9223372036854775807 < U.length + (1 + V.length + 1) := by omega
          have n7 : ¬ 9223372036854775807 < U.length + 1 + (1 + V.length + 1) := by omega
          have hh4 : ((t.kind == 4) = true ∧ 0 < (k : Int) ∧ t.kind = 4 ∧ k ≠ 0) ∨ ((t.kind == 4) = true ∧ ¬ 0 < (k : Int) ∧ k = 0) ∨ ((t.kind == 4) = false ∧ t.kind ≠ 4) := by
            by_cases z : t.kind = 4
            · by_cases y : k = 0
              · exact .inr (.inl ⟨by simp [z], by omega, y⟩)
              · exact .inl ⟨by simp [z], by omega, z, y⟩
            · exact .inr (.inr ⟨by simp [z], z⟩)
          rcases hh4 with ⟨z1, z2, z3⟩ | ⟨z1, z2, z3⟩ | ⟨z1, z3⟩
          · have hp := HP.out
            rw [if_pos z3] at hp
            cases r
            all_goals
              have EP := Lib.hid (And.intro HK.out hp)
              clear hp z3
              go_wp2_with fail
              go_roundg (t.subs.length - (k + 1))
              case measure => omega
              case rel => exact ⟨k + 1, _, by go_num, by omega, Bytes.str_eq (ByteArray.ext (by simp [br])), EP.out.2.symm, EP.out.1⟩
          · have hp := HP.out
            rw [if_neg (by simp [z3])] at hp
            cases r
            all_goals
              have EP := Lib.hid (And.intro HK.out hp)
              clear hp z3
              go_wp2_with fail
              go_roundg (t.subs.length - (k + 1))
              case measure => omega
              case rel => exact ⟨k + 1, _, by go_num, by omega, Bytes.str_eq (ByteArray.ext (by simp [br])), EP.out.2.symm, EP.out.1⟩
          · have hp := HP.out
            rw [if_neg (by simp [z3])] at hp
            cases r
            all_goals
              have EP := Lib.hid (And.intro HK.out hp)
              clear hp z3
              go_wp2_with fail
              go_roundg (t.subs.length - (k + 1))
              case measure => omega
              case rel => exact ⟨k + 1, _, by go_num, by omega, Bytes.str_eq (ByteArray.ext (by simp [br])), EP.out.2.symm, EP.out.1⟩
      · have hke : k = t.subs.length := by omega
        subst hke
        rw [List.take_length] at hU
        have HQ := Lib.hid (And.intro hq hU)
        by_cases z : t.kind = 5
        · have z1 : (t.kind == 5) = true := by simp [z]
          obtain ⟨x, lo, hi, et, b0, b1, b2, -, -⟩ := kind5 HD.out.2.2.1 z
          have em : t.mn = lo ∧ t.mx = hi := by rw [et]; exact ⟨rfl, rfl⟩
          have HT := Lib.hid (fun W' => ftimes_any t.mn t.mx (by rw [em.1]; exact b0) (by rw [em.1]; exact b1) (by rw [em.1, em.2]; exact b2) W')
          have hl7 := times_len t.mn t.mx
          have hx := HD.out.2.1
          rw [if_pos z, ← hU] at hx
          have HX := Lib.hid hx
          have n4 : ¬ 9223372036854775807 < U.length + (times t.mn t.mx).length := by omega
          clear hx et em b0 b1 b2 z hU hq A0
          go_wp2_with fail
          refine (HT.out _).mono ?_
          rintro e w2 ⟨rfl, q2⟩
          have Q2 := Lib.hid q2
          clear q2
          go_wp2
          go_ret
          exact ⟨by rw [HX.out]; exact Bytes.ret_str (Bytes.str_append _ _), H0.out.2.1.trans (HQ.out.1.trans Q2.out)⟩
        · have z1 : (t.kind == 5) = false := by simp [z]
          have hx := HD.out.2.1
          rw [if_neg z, List.append_nil, ← hU] at hx
          have HX := Lib.hid hx
          clear hx hU hq A0 z
          go_wp2_with fail
          go_ret
          exact ⟨by rw [HX.out]; rfl, H0.out.2.1.trans HQ.out.1⟩
theorem ftext_all : ∀ (n : Nat) (t : T), SizeOf.sizeOf t < n → cnt t ≤ 1000000 → ∀ (d : Nat), RT d t → ∀ (a : Option Addr) (c : Nat) (w : World), Lie w (fun _ => True) a t.subs → Calls Try.prog 17 #[nodeV t a c] w fun e w' => e = .returned (Bytes.str (txt t)) ∧ Keep (fun _ => False) w w'
  | 0, _, h => absurd h (Nat.not_lt_zero _)
  | n + 1, t, h => fun hc d hR a c w hL => ftext_step n (ftext_all n) t h hc d hR a c w hL
/-- THE DOCUMENT'S TEXT, of a right expression. -/
theorem ftext_any (t : T) (hc : cnt t ≤ 1000000) (d : Nat) (hR : RT d t) (a : Option Addr) (c : Nat) (w : World) (hL : Lie w (fun _ => True) a t.subs) : Calls Try.prog 17 #[nodeV t a c] w fun e w' => e = .returned (Bytes.str (txt t)) ∧ Keep (fun _ => False) w w' :=
  ftext_all _ t (Nat.lt_succ_self _) hc d hR a c w hL
end Go.Proofs.Ytmohpjpodkbgkaa.P08
