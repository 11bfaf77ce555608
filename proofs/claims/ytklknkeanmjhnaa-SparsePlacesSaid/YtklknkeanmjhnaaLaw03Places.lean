/- SparsePlaces, walked: all that are there stand each at one place, in the order in which they came. -/
import Derived.Test.YtklknkeanmjhnaaPair
import Derived.Test.YtklknkeanmjhnaaPlays03
import Derived.Test.YtklknkeanmjhnaaSeen
import Derived.Deep.RegionHeld3
import Derived.Deep.DeepCutAuto
import Derived.Deep.CutBlock
import Derived.Deep.LoopGhost
namespace Go.Proofs.Ytklknkeanmjhnaa.SparsePlaces
open Go.RowKit Go.Proofs.Ytklknkeanmjhnaa.Base Go.Proofs.Ytklknkeanmjhnaa.Lists Go.Proofs.Ytklknkeanmjhnaa.Sparse Go.Proofs.Ytklknkeanmjhnaa.Law03 Go.Proofs.Ytklknkeanmjhnaa.Meter Go.Proofs.Ytklknkeanmjhnaa.Ref03 Go.Proofs.Ytklknkeanmjhnaa.Seen

theorem addV_mem {n : Nat} {L : List Nat} {x : Int} {y : Nat} : y ∈ (addV n L x).1 ↔ y ∈ L ∨ ((y : Int) = x ∧ y < n) := by
  unfold addV
  split
  · rename_i hc
    simp only [mayV, hasV, Bool.and_eq_true, decide_eq_true_eq] at hc
    simp only [List.mem_append, List.mem_singleton]
    constructor
    · rintro (h | h)
      · exact .inl h
      · exact .inr ⟨by omega, by omega⟩
    · rintro (h | h)
      · exact .inl h
      · exact .inr (by omega)
  · rename_i hc
    simp only
    constructor
    · exact .inl
    · rintro (h | ⟨h1, h2⟩)
      · exact h
      · subst h1
        have h3 : mayV n (y : Int) = true := by simp [mayV, h2]
        rw [h3] at hc
        simpa [hasV] using hc

/-- In L just those of Z's first k numbers are that are below n. -/
def Got (n : Nat) (Z : List Int) (k : Nat) (L : List Nat) : Prop := ∀ y, y ∈ L ↔ y < n ∧ ∃ j, j < k ∧ Z[j]? = some (y : Int)
/-- .. of its last k. -/
def Bot (n : Nat) (Z : List Int) (k : Nat) (L : List Nat) : Prop := ∀ y, y ∈ L ↔ y < n ∧ ∃ j, j < k ∧ Z[Z.length - 1 - j]? = some (y : Int)

theorem Got.zero (n : Nat) (Z : List Int) : Got n Z 0 [] := fun y => by simp
theorem Bot.zero (n : Nat) (Z : List Int) : Bot n Z 0 [] := fun y => by simp

theorem Got.next {n : Nat} {Z : List Int} {k : Nat} {L : List Nat} (h : Got n Z k L) {x : Int} (hx : Z[k]? = some x) : Got n Z (k + 1) (addV n L x).1 := fun y => by
  rw [addV_mem, h y]
  constructor
  · rintro (⟨h1, j, hj, h2⟩ | ⟨h1, h2⟩)
    · exact ⟨h1, j, by omega, h2⟩
    · exact ⟨h2, k, by omega, by rw [hx, h1]⟩
  · rintro ⟨h1, j, hj, h2⟩
    by_cases e : j = k
    · subst e
      rw [hx] at h2
      injection h2 with h2
      exact .inr ⟨h2.symm, h1⟩
    · exact .inl ⟨h1, j, by omega, h2⟩

theorem Bot.next {n : Nat} {Z : List Int} {k : Nat} {L : List Nat} (h : Bot n Z k L) {x : Int} (hx : Z[Z.length - 1 - k]? = some x) : Bot n Z (k + 1) (addV n L x).1 := fun y => by
  rw [addV_mem, h y]
  constructor
  · rintro (⟨h1, j, hj, h2⟩ | ⟨h1, h2⟩)
    · exact ⟨h1, j, by omega, h2⟩
    · exact ⟨h2, k, by omega, by rw [hx, h1]⟩
  · rintro ⟨h1, j, hj, h2⟩
    by_cases e : j = k
    · subst e
      rw [hx] at h2
      injection h2 with h2
      exact .inr ⟨h2.symm, h1⟩
    · exact .inl ⟨h1, j, by omega, h2⟩

theorem both {n : Nat} {Z : List Int} {L M : List Nat} (h1 : Got n Z Z.length L) (h2 : Bot n Z Z.length M) (y : Nat) : y ∈ L ↔ y ∈ M := by
  rw [h1 y, h2 y]
  constructor
  · rintro ⟨h, j, hj, e⟩
    exact ⟨h, Z.length - 1 - j, by omega, by rw [show Z.length - 1 - (Z.length - 1 - j) = j from by omega]; exact e⟩
  · rintro ⟨h, j, hj, e⟩
    exact ⟨h, Z.length - 1 - j, by omega, e⟩

theorem perm_of {L M : List Nat} (hL : L.Nodup) (hM : M.Nodup) (h : ∀ y, y ∈ L ↔ y ∈ M) : L.Perm M := (List.perm_ext_iff_of_nodup hL hM).2 h

theorem sort_perm {L M : List Nat} (h : L.Perm M) : sortI (ints L) = sortI (ints M) := by
  apply sortI_eq
  · exact (List.mergeSort_perm _ _).trans (h.symm.map _)
  · exact (List.pairwise_mergeSort (le := fun x y => decide (x ≤ y)) (fun a b c h1 h2 => by simp at h1 h2 ⊢; omega) (fun a b => by simp; omega) (ints M)).imp (fun h => by simpa using h)

/-- Two sets, a list of what is in the first one, and the map of what was seen of it. -/
structure Sees (w0 w : World) (b g c d n : Nat) (L M : List Nat) (v : Value) (m : Nat) (k : Nat) : Prop where
  t : Two w0 w [] b g c d n L M
  il : IL w v (ints L)
  vf : ∀ u, v.ownBlock = some u → u ≠ m
  mf : w0.heap.size ≤ m ∧ m ≠ b ∧ m ≠ g ∧ m ≠ c ∧ m ≠ d
  hs : Has w m ((ints L).take k)

theorem Sees.noneK {w0 w w' : World} {b g c d n : Nat} {L M : List Nat} {v : Value} {m k : Nat} (h : Sees w0 w b g c d n L M v m k) (q : Keep (fun _ => False) w w') : Sees w0 w' b g c d n L M v m k :=
  ⟨h.t.noneK q, h.il.keep q (fun _ _ h => h), h.vf, h.mf, h.hs.keep q id⟩

theorem il_ne {w : World} {v : Value} {L M : List Int} {m : Nat} (h : IL w v L) (k : Has w m M) (u : Nat) (hu : v.ownBlock = some u) : u ≠ m := by
  rcases h.2 with ⟨rfl, _⟩ | ⟨g', cap, cur, rfl, _, h1, _⟩
  · cases hu
  · cases hu
    have ha : At w g' 3 cur := h1
    exact fun e => k.ne ha e.symm

theorem Sees.form {w0 w : World} {b g c d n : Nat} {L M : List Nat} {v : Value} {m k : Nat} (h : Sees w0 w b g c d n L M v m k) : ∃ a cap, v = .slice a L.length cap := by
  obtain ⟨a, cap, e, -⟩ := h.il.form
  exact ⟨a, cap, by rw [e]; simp [ints]⟩

theorem Sees.cell {w0 w : World} {b g c d n : Nat} {L M : List Nat} {a : Option Addr} {cap m k : Nat} (h : Sees w0 w b g c d n L M (.slice a L.length cap) m k) {x : Nat} (hx : L[k]? = some x) : ∃ u, a = some ⟨u, 0, none⟩ ∧ w.cell? ⟨u, k, none⟩ = some (.int .i64 x) := by
  obtain ⟨a', cap', e, hc⟩ := h.il.form
  injection e with e1 _ e2
  subst e1
  obtain ⟨u, -, e3, e4⟩ := hc k x (by unfold ints; rw [List.getElem?_map, hx]; rfl)
  exact ⟨u, e3, e4⟩

theorem Sees.look {w0 w : World} {b g c d n : Nat} {L M : List Nat} {v : Value} {m k : Nat} (h : Sees w0 w b g c d n L M v m k) {x : Nat} (hx : L[k]? = some x) :
    (Instr.lookup 55 (.map (some m)) (.int .i64 x) false).run Try.prog w = .ok (.bool false) w ∧ (x : Int) ∉ (ints L).take k := by
  have hm : x ∈ L := List.mem_of_getElem? hx
  have hlt := h.t.o1.st.lt x hm
  have hmo := h.t.o1.st.most
  have hn : (x : Int) ∉ (ints L).take k := by
    intro hc
    obtain ⟨j, hj, e⟩ := List.getElem_of_mem hc
    simp only [List.length_take] at hj
    have e1 : L[j]? = some x := by
      have e2 : (ints L)[j]? = some (x : Int) := by
        rw [← e, List.getElem_take, List.getElem?_eq_getElem]
      unfold ints at e2
      rw [List.getElem?_map] at e2
      cases e3 : L[j]? with
      | none => rw [e3] at e2; cases e2
      | some z =>
        rw [e3] at e2
        simp at e2
        rw [show z = x from by omega]
    have hnd := h.t.o1.st.nodup
    obtain ⟨i1, e4⟩ := List.getElem?_eq_some_iff.1 e1
    obtain ⟨i2, e5⟩ := List.getElem?_eq_some_iff.1 hx
    have := (List.getElem_inj (h₀ := i1) (h₁ := i2) hnd).1 (by rw [e4, e5])
    omega
  have := h.hs.look (x := x) (by omega) (by omega)
  rw [show decide ((x : Int) ∈ (ints L).take k) = false from by simpa using hn] at this
  exact ⟨this, hn⟩

theorem Sees.add {w0 w : World} {b g c d n : Nat} {L M : List Nat} {v : Value} {m k : Nat} (h : Sees w0 w b g c d n L M v m k) {x : Nat} (hx : L[k]? = some x) :
    ∃ w', (Instr.mapUpdate 55 (.map (some m)) (.int .i64 x) (.bool true)).run Try.prog w = .ok () w' ∧ Sees w0 w' b g c d n L M v m (k + 1) := by
  have hm : x ∈ L := List.mem_of_getElem? hx
  have hlt := h.t.o1.st.lt x hm
  have hmo := h.t.o1.st.most
  have hlen := len_of h.t.o1.st
  obtain ⟨w', hrun, h1, q⟩ := h.hs.add (x := x) (by omega) (by omega) (h.look hx).2 (by simp only [List.length_take]; unfold maxLen; omega)
  have e : (ints L).take k ++ [(x : Int)] = (ints L).take (k + 1) := by
    have e2 : (ints L)[k]? = some (x : Int) := by unfold ints; rw [List.getElem?_map, hx]; rfl
    rw [List.take_add_one, e2]
    rfl
  rw [e] at h1
  have h2 := h.mf
  have h3 := h.vf
  exact ⟨w', hrun, ⟨h.t.o1.step q (by omega) (by omega) (fun i hi => by omega), h.t.o2.step q (by omega) (by omega) (fun i hi => by omega), h.t.ap, fun e he => by simp at he⟩, h.il.keep q (fun u hu => h3 u hu), h.vf, h.mf, h1⟩

set_option maxRecDepth 100000 in
set_option maxHeartbeats 2000000 in
theorem walk {H : Type} {enc : TypeId × Value → H} (v0 v1 : Value) {d0 d1 : DataW H} {p0 p1 : List MemPlace} (W : World)
    (k0 : Value.okWide Try.prog W .any 0 3 v0) (k1 : Value.okWide Try.prog W .any 0 32 v1)
    (h0 : DataW.Trod enc Try.prog W 0 (fun _ => true) true 3 v0 d0 p0) (h1 : DataW.Trod enc Try.prog W 0 (fun _ => true) true 32 v1 d1 p1) :
    Calls Try.prog 12 #[v0, v1] W fun e w' => e = .returned (.bool true) ∧ Below W.heap.size W w' := by
  obtain ⟨n, rfl, -, -⟩ := int_arg Try.underlying3 k0 h0
  obtain ⟨la, cap, bl, off, Z, rfl, hlen, hla, hrow⟩ := ints_arg k1 h1
  clear k0 k1 h0 h1
  have HR := Lib.hid hrow
  have HA := Lib.hid hla
  clear hrow hla
  obtain ⟨len, hZ⟩ : ∃ len, Z.length = len := ⟨_, rfl⟩
  have HZ := Lib.hid hZ
  rw [hZ] at hlen ⊢
  clear hZ
  by_cases c1 : n < 0
  · have c1' : decide (n < 0) = true := by simpa using c1
    go_enter Try.func12, Try.ntmps12
    go_wp2_with fail
    refine (awake_any _).mono ?_
    rintro e w1 ⟨rfl, q1⟩
    have r1 := Lib.hid q1
    clear q1
    go_wp2_with fail
    refine (awake_any _).mono ?_
    rintro e w2 ⟨rfl, q2⟩
    have r2 := Lib.hid (r1.out.trans q2)
    clear q2 r1
    go_wp2
    go_ret
    exact ⟨rfl, r2.out.below (Nat.le_refl _) (fun _ _ h => h)⟩
  · have c1' : decide (n < 0) = false := by simpa using c1
    by_cases c2 : 300 < n
    · have c2' : decide (300 < n) = true := by simpa using c2
      go_enter Try.func12, Try.ntmps12
      go_wp2_with fail
      refine (awake_any _).mono ?_
      rintro e w1 ⟨rfl, q1⟩
      have r1 := Lib.hid q1
      clear q1
      go_wp2_with fail
      refine (awake_any _).mono ?_
      rintro e w2 ⟨rfl, q2⟩
      have r2 := Lib.hid (r1.out.trans q2)
      clear q2 r1
      go_wp2
      go_ret
      exact ⟨rfl, r2.out.below (Nat.le_refl _) (fun _ _ h => h)⟩
    · have c2' : decide (300 < n) = false := by simpa using c2
      by_cases c3 : 500 < len
      · have c3' : decide ((500 : Int) < (len : Int)) = true := by simp; omega
        go_enter Try.func12, Try.ntmps12
        go_wp2_with fail
        refine (awake_any _).mono ?_
        rintro e w1 ⟨rfl, q1⟩
        have r1 := Lib.hid q1
        clear q1
        go_wp2_with fail
        refine (awake_any _).mono ?_
        rintro e w2 ⟨rfl, q2⟩
        have r2 := Lib.hid (r1.out.trans q2)
        clear q2 r1
        go_wp2
        go_ret
        exact ⟨rfl, r2.out.below (Nat.le_refl _) (fun _ _ h => h)⟩
      · have c3' : decide ((500 : Int) < (len : Int)) = false := by simp; omega
        obtain ⟨n, rfl⟩ : ∃ k : Nat, n = k := ⟨n.toNat, by omega⟩
        have hn : n ≤ 65536 := by omega
        have hl5 : len ≤ 500 := by omega
        go_enter Try.func12, Try.ntmps12
        go_wp2_with fail
        refine (awake_any _).mono ?_
        rintro e w1 ⟨rfl, q1⟩
        go_wp2_with fail
        refine (new_none n hn _).mono ?_
        rintro e w2 F1
        obtain ⟨⟨b, g, rfl, -⟩, -⟩ := id F1
        go_wp2_with fail
        refine (new_none n hn _).mono ?_
        rintro e w3 F2
        obtain ⟨b', g', c, d, e1, rfl, T0⟩ := Two.made q1 F1 F2
        cases e1
        clear F1 F2
        clear c1 c1' c2 c2' c3 c3'
        go_wp2_with fail
        go_loopg [41] len (fun gg i wr => ∃ (k : Nat) (L M : List Nat), k + gg = len ∧ i = .int .i64 k ∧ Two W wr [] b g' c d n L M ∧ Got n Z k L ∧ Bot n Z k M)
        case atStart => exact ⟨0, [], [], Nat.zero_add _, rfl, T0, Got.zero n Z, Bot.zero n Z⟩
        case round =>
          obtain ⟨k, L, M, hk, rfl, hT, hG, hB⟩ := hrel
          by_cases hlt : k < len
          · obtain ⟨hla, hbl⟩ := HA.out (by rw [HZ.out]; omega)
            subst hla
            obtain ⟨x, hx⟩ : ∃ x, Z[k]? = some x := ⟨_, List.getElem?_eq_getElem (by rw [HZ.out]; omega)⟩
            obtain ⟨y, hy⟩ : ∃ y, Z[Z.length - 1 - k]? = some y := ⟨_, List.getElem?_eq_getElem (by rw [HZ.out]; omega)⟩
            obtain ⟨j, hj⟩ : ∃ j, j = len - 1 - k := ⟨_, rfl⟩
            have c0 : wr.cell? ⟨bl, off + k, none⟩ = some (.int .i64 x) := (hT.keep.cell hbl (fun h => h)).trans (HR.out k x hx).1
            have c1 : W.cell? ⟨bl, off + j, none⟩ = some (.int .i64 y) := by
              have := (HR.out _ y hy).1
              rw [HZ.out, ← hj] at this
              exact this
            have hjl : j < len := by omega
            have hji : (len : Int) - 1 - k = j := by omega
            have hG := Lib.hid (hG.next hx)
            have hB := Lib.hid (hB.next hy)
            have hlt' : (k : Int) < len := by omega
            have hjl' : (j : Int) < len := by omega
            have T1 := Lib.hid hT
            clear hT hx hy hj
            go_wp2_with fail
            refine (two_add b g' c d n L M x _ T1.out).mono ?_
            rintro e w4 ⟨rfl, T2⟩
            have c2 : w4.cell? ⟨bl, off + j, none⟩ = some (.int .i64 y) := (T2.keep.cell hbl (fun h => h)).trans c1
            have T2 := Lib.hid T2.swap
            clear T1 c1 c0
            go_wp2_with fail
            refine (two_add c d b g' n M _ y _ T2.out).mono ?_
            rintro e w5 ⟨rfl, T3⟩
            have T3 := Lib.hid T3.swap
            clear T2
            go_wp2_with fail
            go_roundg (gk - 1)
            case measure => omega
            case rel => exact ⟨k + 1, _, _, by omega, by go_num, T3.out, hG.out, hB.out⟩
          · obtain rfl : k = len := by omega
            have hf : ¬ ((k : Int) < k) := by omega
            have hmem := both (Z := Z) (by rw [HZ.out]; exact hG) (by rw [HZ.out]; exact hB)
            have hp := perm_of hT.o1.st.nodup hT.o2.st.nodup hmem
            have HP := Lib.hid (And.intro hmem hp)
            clear hG hB hmem hp q1 T0
            have T1 := hT.noneK ((Keep.refl (fun _ => False) wr).alloc (.map #[] 0))
            have S0 := Has.new wr
            have hmm := @run_makeMap Try.prog
            go_wp2_with fail
            have S0 := Lib.hid S0
            refine (two_list b g' c d n L M _ T1).mono ?_
            rintro e w5 ⟨v, rfl, l5, q5, T5⟩
            have S1 : Sees W w5 b g' c d n L M v wr.heap.size 0 := by
              have hs := S0.out.keep q5 id
              have := hT.o1.b1
              have := hT.o1.g1
              have := hT.o2.b1
              have := hT.o2.g1
              have := hT.keep.size
              exact ⟨T5, l5, il_ne l5 hs, ⟨by omega, by omega, by omega, by omega, by omega⟩, by simpa using hs⟩
            generalize wr.heap.size = m at *
            obtain ⟨a, cap5, rfl⟩ := S1.form
            clear T1 S0 T5 l5 q5 hT hmm
            have hL5 : L.length ≤ 65536 := by have := len_of S1.t.o1.st; simpa [ints] using this
            go_wp2_with fail
            go_loopg [65] L.length (fun gg i wr => ∃ (k : Nat), k + gg = L.length ∧ i = .int .i64 k ∧ Sees W wr b g' c d n L M (.slice a L.length cap5) m k)
            case atStart => exact ⟨0, Nat.zero_add _, rfl, S1⟩
            case round =>
              obtain ⟨k, hk, rfl, hS⟩ := hrel
              by_cases hlt : k < L.length
              · obtain ⟨x, hx⟩ : ∃ x, L[k]? = some x := ⟨_, List.getElem?_eq_getElem hlt⟩
                obtain ⟨u, rfl, c0⟩ := hS.cell hx
                have hlk := (hS.look hx).1
                obtain ⟨w6, hup, S2⟩ := hS.add hx
                have ha := Lib.hid (atV_some hx)
                have hv1 : hasV L x = true := by simp [hasV, List.mem_of_getElem? hx]
                have hv2 : hasV M x = true := by simp [hasV, (HP.out.1 x).1 (List.mem_of_getElem? hx)]
                have V1 := Lib.hid hv1
                have V2 := Lib.hid hv2
                have T6 := Lib.hid hS.t
                have S2 := Lib.hid S2
                have hlt' : (k : Int) < L.length := by omega
                clear hx hS S1 hv1 hv2
                go_wp2_with fail
                refine (two_at b g' c d n L M k x ha.out _ T6.out).mono ?_
                rintro e w7 ⟨rfl, rfl⟩
                go_wp2_with fail
                refine (two_has b g' c d n L M x true V1.out _ T6.out).mono ?_
                rintro e w8 ⟨rfl, rfl⟩
                go_wp2_with fail
                refine (two_has c d b g' n M L x true V2.out _ T6.out.swap).mono ?_
                rintro e w9 ⟨rfl, rfl⟩
                go_wp2_with fail
                go_roundg (gk - 1)
                case measure => omega
                case rel => exact ⟨k + 1, by omega, by go_num, S2.out⟩
              · obtain rfl : k = L.length := by omega
                have hf : ¬ ((L.length : Int) < L.length) := by omega
                have hlen2 : ∀ ty, (Builtin.len_ #[55] ty #[.map (some m)]).run Try.prog wr = .ok (.int .i64 L.length) wr := fun ty => by
                  have := hS.hs.len ty
                  rw [show ((ints L).take L.length).length = L.length from by simp [ints]] at this
                  exact this
                have hML : M.length = L.length := HP.out.2.length_eq.symm
                have T6 := Lib.hid hS.t
                clear hS S1
                go_wp2_with fail
                refine (two_len b g' c d n L M _ T6.out).mono ?_
                rintro e w7 ⟨rfl, rfl⟩
                go_wp2_with fail
                refine (two_len b g' c d n L M _ T6.out).mono ?_
                rintro e w7 ⟨rfl, rfl⟩
                go_wp2_with fail
                refine (two_len c d b g' n M L _ T6.out.swap).mono ?_
                rintro e w8 ⟨rfl, rfl⟩
                rw [hML]
                go_wp2_with fail
                refine (two_sorted b g' c d n L M _ T6.out).mono ?_
                rintro e w9 ⟨s1, rfl, l9, -, T9⟩
                have T9 := Lib.hid T9.swap
                clear T6 hlen2
                go_wp2_with fail
                refine (two_sorted c d b g' n M L _ T9.out).mono ?_
                rintro e w10 ⟨s2, rfl, l10, q10, T10⟩
                have l9 := l9.keep q10 (fun _ _ h => h)
                rw [← sort_perm HP.out.2] at l10
                have T10 := Lib.hid T10.swap
                clear T9 q10
                go_wp2_with fail
                refine (same_self _ l9 l10 (by have := len_of T10.out.o1.st; unfold sortI; rw [List.length_mergeSort]; omega)).mono ?_
                rintro e w11 ⟨rfl, q11⟩
                have Q := Lib.hid (T10.out.keep.trans q11)
                clear T10 q11 l9 l10
                go_wp2
                go_ret
                exact ⟨rfl, Q.out.below (Nat.le_refl _) (fun _ _ h => h)⟩

end Go.Proofs.Ytklknkeanmjhnaa.SparsePlaces
