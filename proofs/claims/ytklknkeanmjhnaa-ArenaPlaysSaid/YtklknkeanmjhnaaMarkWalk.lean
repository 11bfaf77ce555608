/- mark, walked: every tree, by induction on how many places it has. -/
import Derived.Test.YtklknkeanmjhnaaMark
namespace Go.Proofs.Ytklknkeanmjhnaa.Stretch
open Go.RowKit Go.Proofs.Ytklknkeanmjhnaa.Base

theorem St.congr {b o : Nat} {t : TR} {w : World} {g g' : Nat → Bool} {bl : Nat} {l : TR} {br : Nat} {r : TR} {W : World} (h : St b o t w g bl l br r W) (e : ∀ i, i < t.size → g' i = g i) : St b o t w g' bl l br r W := by
  obtain ⟨a0, a1, a2, a3, a4, a5, a6, a7, a8, a9, a10, a11, a12⟩ := h
  exact ⟨a0, a1, a2, a3, a4, a5, a6, a7, a8, a9, a10, a11, fun i hi => (a12 i hi).trans (e i hi).symm⟩

theorem St.dupL {b o : Nat} {t : TR} {w : World} {g : Nat → Bool} {bl : Nat} {l : TR} {br : Nat} {r : TR} {W : World} (h : St b o t w g bl l br r W) : (bl :: l.fp).Nodup := by
  have := h.dup
  simp only [List.nodup_cons, List.mem_cons, List.mem_append, not_or, List.nodup_append] at this ⊢
  exact ⟨this.2.1.2.1, this.2.2.2.1⟩

theorem St.dupR {b o : Nat} {t : TR} {w : World} {g : Nat → Bool} {bl : Nat} {l : TR} {br : Nat} {r : TR} {W : World} (h : St b o t w g bl l br r W) : (br :: r.fp).Nodup := by
  have := h.dup
  simp only [List.nodup_cons, List.mem_cons, List.mem_append, not_or, List.nodup_append] at this ⊢
  exact ⟨this.2.2.1.2, this.2.2.2.2.1⟩

theorem St.neL {b o : Nat} {t : TR} {w : World} {g : Nat → Bool} {bl : Nat} {l : TR} {br : Nat} {r : TR} {W : World} (h : St b o t w g bl l br r W) : bl ≠ b := by
  have := h.dup
  simp only [List.nodup_cons, List.mem_cons, not_or] at this
  exact fun e => this.1.1 e.symm

theorem St.neR {b o : Nat} {t : TR} {w : World} {g : Nat → Bool} {bl : Nat} {l : TR} {br : Nat} {r : TR} {W : World} (h : St b o t w g bl l br r W) : br ≠ b := by
  have := h.dup
  simp only [List.nodup_cons, List.mem_cons, not_or] at this
  exact fun e => this.1.2.1 e.symm

theorem markG2 {ls ls' : Nat} {p q : Int} {f : Bool} {g : Nat → Bool} (e : ls' = ls) (i : Nat) :
    (if p ≤ i ∧ (i : Int) < q then f else g i) = (if ls' ≤ i ∧ p ≤ i ∧ (i : Int) < q then f else (if i < ls ∧ p ≤ i ∧ (i : Int) < q then f else g i)) := by
  subst e
  by_cases h : p ≤ i ∧ (i : Int) < q
  · by_cases h1 : ls' ≤ i
    · simp [h, h1]
    · simp [h, Nat.lt_of_not_le h1]
  · simp [h]

theorem markG1 {ls : Nat} {p q : Int} {f : Bool} {g : Nat → Bool} (e : q ≤ ls) (i : Nat) :
    (if p ≤ i ∧ (i : Int) < q then f else g i) = (if i < ls ∧ p ≤ i ∧ (i : Int) < q then f else g i) := by
  by_cases h : p ≤ i ∧ (i : Int) < q
  · have : i < ls := by omega
    simp [h, this]
  · simp [h]

/-- What is known of the calls on lesser trees. -/
def Lesser (n : Nat) : Prop := ∀ (t : TR) (b o : Nat) (p q : Int) (f : Bool) (w : World), t.size < n → t.Ok → t.size ≤ 1048576 → Tr w b o t → (b :: t.fp).Nodup → p < q → p < t.size → 0 < q → (t.size : Int) - 2097152 ≤ p → q ≤ 2097152 →
  Calls Try.prog 50 #[np b o, .int .i64 p, .int .i64 q, .bool f] w fun e w' => e = .returned (.tuple #[]) ∧ MkR b o t p q f w w'

set_option maxRecDepth 100000 in
set_option maxHeartbeats 1000000 in
theorem mark_all (t : TR) (b o : Nat) (p q : Int) (f : Bool) (w : World) (hT : Tr w b o t) (h1 : p ≤ 0) (h2 : t.size ≤ q) :
    Calls Try.prog 50 #[np b o, .int .i64 p, .int .i64 q, .bool f] w fun e w' => e = .returned (.tuple #[]) ∧ MkR b o t p q f w w' := by
  have hN := hT.nd
  have k0 : w.cell? ⟨b, o, none⟩ = some (.int .i64 t.size) := hN.cells.1
  have hf := fill_any b o t.nv f w hN
  clear hN
  go_enter Try.func50, Try.ntmps50
  go_wp2_with fail
  refine hf.mono ?_
  rintro e w1 ⟨rfl, n1, s1, q1, -⟩
  clear hf
  go_wp2
  refine bodyPost_ret (results_none rfl _ _ _) rfl ?_
  refine ⟨rfl, .leaf t.size f, ⟨trivial, rfl, fun i hi => ?_⟩, ?_, ?_, ?_, s1, q1.mono fun _ h => .inl h⟩
  · rw [if_pos (by omega)]
    simp [TR.free, hi]
  · cases f <;> exact n1
  · simp [TR.fp]
  · intro k hk
    simp [TR.fp] at hk

set_option maxRecDepth 100000 in
set_option maxHeartbeats 1000000 in
theorem mark_node (bl : Nat) (l : TR) (br : Nat) (r : TR) (b o : Nat) (p q : Int) (f : Bool) (w : World) (ih : Lesser (TR.node bl l br r).size) (ok : (TR.node bl l br r).Ok) (hz : (TR.node bl l br r).size ≤ 1048576) (hT : Tr w b o (.node bl l br r)) (hd : (b :: (TR.node bl l br r).fp).Nodup)
    (hpq : p < q) (hps : p < (TR.node bl l br r).size) (hq : 0 < q) (hp2 : ((TR.node bl l br r).size : Int) - 2097152 ≤ p) (hq2 : q ≤ 2097152) (hno : ¬ (p ≤ 0 ∧ ((TR.node bl l br r).size : Int) ≤ q)) :
    Calls Try.prog 50 #[np b o, .int .i64 p, .int .i64 q, .bool f] w fun e w' => e = .returned (.tuple #[]) ∧ MkR b o (.node bl l br r) p q f w w' := by
  have hS := St.of_node hT ok hd
  have hN := hT.nd
  obtain ⟨k0, -, -, -, k4, -, -⟩ := hN.cells
  have l0 : w.cell? ⟨bl, 0, none⟩ = some (.int .i64 l.size) := hT.2.1.nd.cells.1
  have hlt : l.size < (TR.node bl l br r).size := by have := ok.2.1; simp only [TR.size]; omega
  have hrt : r.size < (TR.node bl l br r).size := by have := ok.1; simp only [TR.size]; omega
  simp only [TR.nv, TR.kidL, kid, Option.map_some] at k0 k4
  clear hN hT hd ok
  have hsz : ((TR.node bl l br r).size : Int) = l.size + r.size := by simp only [TR.size]; omega
  generalize TR.node bl l br r = T at *
  go_enter Try.func50, Try.ntmps50
  by_cases hg : p ≤ 0
  · have hg2 : ¬ ((T.size : Int) ≤ q) := fun h => hno ⟨hg, h⟩
    clear hno
    go_upto_if 38 with fail
    go_cut [] from 9 (fun wx => ∃ l', l'.size = l.size ∧ St b o T w (fun i => if i < l.size ∧ p ≤ i ∧ (i : Int) < q then f else T.free i) bl l' br r wx)
    case first =>
      by_cases hp : p < l.size
      · have HS := Lib.hid hS
        clear hS l0
        go_wp2_with fail
        refine (ih l bl 0 p q f _ hlt HS.out.ol (by omega) HS.out.tl (St.dupL HS.out) hpq hp hq (by omega) hq2).mono ?_
        rintro e w1 ⟨rfl, m⟩
        go_wp2_with fail
        go_meet
        case rel => exact HS.out.left m
      · have HS := Lib.hid hS
        clear hS l0
        go_wp2_with fail
        all_goals
          go_meet
          case rel => exact ⟨l, rfl, HS.out.congr fun i hi => by rw [if_neg (by omega)]⟩
    case rest =>
      obtain ⟨l', hl', hS1⟩ := hcut
      clear hS k4 l0
      obtain ⟨F1, B1, M1, hN1⟩ := hS1.nd
      obtain ⟨-, -, -, -, k4, k5, -⟩ := hN1.cells
      simp only [kid, Option.map_some] at k4 k5
      clear hN1
      have Hl := Lib.hid hl'
      have HS := Lib.hid hS1
      clear hl' hS1
      go_upto_if 49 with fail
      go_cut [] from 9 (fun wx => ∃ r', r'.size = r.size ∧ St b o T w (fun i => if p ≤ i ∧ (i : Int) < q then f else T.free i) bl l' br r' wx)
      case first =>
        by_cases hr : (l.size : Int) < q
        · have hw1 : IntKind.i64.wrap (p - l.size) = p - l.size := by rw [IntKind.wrap_i64]; omega
          have hw2 : IntKind.i64.wrap (q - l.size) = q - l.size := by rw [IntKind.wrap_i64]; omega
          go_wp2_with fail
          refine (ih r br 0 (p - l.size) (q - l.size) f _ hrt HS.out.or (by omega) HS.out.tr (St.dupR HS.out) (by omega) (by omega) (by omega) (by omega) (by omega)).mono ?_
          rintro e w1 ⟨rfl, m⟩
          go_wp2_with fail
          go_meet
          case rel =>
            have e1 := Hl.out
            rw [← e1] at m
            obtain ⟨r', h1, h2⟩ := HS.out.right m
            exact ⟨r', h1, h2.congr fun i hi => markG2 e1 i⟩
        · go_wp2_with fail
          go_meet
          case rel =>
            exact ⟨r, rfl, HS.out.congr fun i hi => markG1 (by omega) i⟩
      case rest =>
        obtain ⟨r', hr', hS2⟩ := hcut
        clear k4 k5
        obtain ⟨F2, B2, M2, hN2⟩ := hS2.nd
        have hj := join_any b o bl br _ F2 B2 M2 l'.nv r'.nv _ hN2 hS2.tl.nd hS2.tr.nd (St.neL hS2) (St.neR hS2) (TR.small hS2.ol (by have := hS2.sz; omega)) (TR.small hS2.or (by have := hS2.sz; omega))
        have HS2 := Lib.hid hS2
        have Hr := Lib.hid hr'
        clear hS2 hr' hN2
        go_wp2_with fail
        refine hj.mono ?_
        rintro e w3 ⟨rfl, m⟩
        clear hj
        go_wp2
        go_end0
        exact ⟨rfl, HS2.out.joined m fun i _ => rfl⟩
  · clear hno
    go_upto_if 38 with fail
    go_cut [] from 9 (fun wx => ∃ l', l'.size = l.size ∧ St b o T w (fun i => if i < l.size ∧ p ≤ i ∧ (i : Int) < q then f else T.free i) bl l' br r wx)
    case first =>
      by_cases hp : p < l.size
      · have HS := Lib.hid hS
        clear hS l0
        go_wp2_with fail
        refine (ih l bl 0 p q f _ hlt HS.out.ol (by omega) HS.out.tl (St.dupL HS.out) hpq hp hq (by omega) hq2).mono ?_
        rintro e w1 ⟨rfl, m⟩
        go_wp2_with fail
        go_meet
        case rel => exact HS.out.left m
      · have HS := Lib.hid hS
        clear hS l0
        go_wp2_with fail
        all_goals
          go_meet
          case rel => exact ⟨l, rfl, HS.out.congr fun i hi => by rw [if_neg (by omega)]⟩
    case rest =>
      obtain ⟨l', hl', hS1⟩ := hcut
      clear hS k4 l0
      obtain ⟨F1, B1, M1, hN1⟩ := hS1.nd
      obtain ⟨-, -, -, -, k4, k5, -⟩ := hN1.cells
      simp only [kid, Option.map_some] at k4 k5
      clear hN1
      have Hl := Lib.hid hl'
      have HS := Lib.hid hS1
      clear hl' hS1
      go_upto_if 49 with fail
      go_cut [] from 9 (fun wx => ∃ r', r'.size = r.size ∧ St b o T w (fun i => if p ≤ i ∧ (i : Int) < q then f else T.free i) bl l' br r' wx)
      case first =>
        by_cases hr : (l.size : Int) < q
        · have hw1 : IntKind.i64.wrap (p - l.size) = p - l.size := by rw [IntKind.wrap_i64]; omega
          have hw2 : IntKind.i64.wrap (q - l.size) = q - l.size := by rw [IntKind.wrap_i64]; omega
          go_wp2_with fail
          refine (ih r br 0 (p - l.size) (q - l.size) f _ hrt HS.out.or (by omega) HS.out.tr (St.dupR HS.out) (by omega) (by omega) (by omega) (by omega) (by omega)).mono ?_
          rintro e w1 ⟨rfl, m⟩
          go_wp2_with fail
          go_meet
          case rel =>
            have e1 := Hl.out
            rw [← e1] at m
            obtain ⟨r', h1, h2⟩ := HS.out.right m
            exact ⟨r', h1, h2.congr fun i hi => markG2 e1 i⟩
        · go_wp2_with fail
          go_meet
          case rel =>
            exact ⟨r, rfl, HS.out.congr fun i hi => markG1 (by omega) i⟩
      case rest =>
        obtain ⟨r', hr', hS2⟩ := hcut
        clear k4 k5
        obtain ⟨F2, B2, M2, hN2⟩ := hS2.nd
        have hj := join_any b o bl br _ F2 B2 M2 l'.nv r'.nv _ hN2 hS2.tl.nd hS2.tr.nd (St.neL hS2) (St.neR hS2) (TR.small hS2.ol (by have := hS2.sz; omega)) (TR.small hS2.or (by have := hS2.sz; omega))
        have HS2 := Lib.hid hS2
        have Hr := Lib.hid hr'
        clear hS2 hr' hN2
        go_wp2_with fail
        refine hj.mono ?_
        rintro e w3 ⟨rfl, m⟩
        clear hj
        go_wp2
        go_end0
        exact ⟨rfl, HS2.out.joined m fun i _ => rfl⟩

set_option maxRecDepth 100000 in
set_option maxHeartbeats 1000000 in
theorem mark_leaf (n : Nat) (f0 : Bool) (b o : Nat) (p q : Int) (f : Bool) (w : World) (ih : Lesser n) (hz : n ≤ 1048576) (hT : Tr w b o (.leaf n f0))
    (hpq : p < q) (hps : p < n) (hq : 0 < q) (hp2 : (n : Int) - 2097152 ≤ p) (hq2 : q ≤ 2097152) (hno : ¬ (p ≤ 0 ∧ (n : Int) ≤ q)) :
    Calls Try.prog 50 #[np b o, .int .i64 p, .int .i64 q, .bool f] w fun e w' => e = .returned (.tuple #[]) ∧ MkR b o (.leaf n f0) p q f w w' := by
  have n2 : 2 ≤ n := by omega
  have hN : Nd w b o ⟨(n : Int), if f0 then n else 0, if f0 then n else 0, if f0 then n else 0, none, none⟩ := by cases f0 <;> exact hT
  obtain ⟨k0, -, -, -, k4, -, -⟩ := hN.cells
  have hs := split_any b o n f0 w hN (by omega) (by omega)
  have hb := hN.lt
  simp only [kid, Option.map_none] at k0 k4
  clear hN hT
  go_enter Try.func50, Try.ntmps50
  by_cases hg : p ≤ 0
  · have hg2 : ¬ ((n : Int) ≤ q) := fun h => hno ⟨hg, h⟩
    clear hno
    go_wp2_with fail
    refine hs.mono ?_
    rintro e W hsp
    obtain ⟨rfl, bl, br, hS⟩ := St.of_split hsp n2 hb
    have hsz : (((TR.leaf n f0).size : Nat) : Int) = (TR.leaf (n / 2) f0).size + (TR.leaf (n - n / 2) f0).size := by simp only [TR.size]; omega
    have hlt : (TR.leaf (n / 2) f0).size < n := by simp only [TR.size]; omega
    have hrt : (TR.leaf (n - n / 2) f0).size < n := by simp only [TR.size]; omega
    have hnT : (TR.leaf n f0).size = n := rfl
    clear hsp hs k0 k4 hb
    generalize TR.leaf (n / 2) f0 = l at *
    generalize TR.leaf (n - n / 2) f0 = r at *
    generalize eT : TR.leaf n f0 = T at *
    have HET := Lib.hid eT
    have HnT := Lib.hid hnT
    have hps : p < T.size := by omega
    have hp2 : (T.size : Int) - 2097152 ≤ p := by omega
    have hz : T.size ≤ 1048576 := by omega
    have k4 : W.cell? ⟨b, o + 4, none⟩ = some (.pointer (some ⟨bl, 0, none⟩)) := by
      obtain ⟨F, B, M, hN⟩ := hS.nd
      exact hN.cells.2.2.2.2.1
    have l0 : W.cell? ⟨bl, 0, none⟩ = some (.int .i64 l.size) := hS.tl.nd.cells.1
    clear hnT eT
    go_upto_if 38 with fail
    go_cut [] from 9 (fun wx => ∃ l', l'.size = l.size ∧ St b o T w (fun i => if i < l.size ∧ p ≤ i ∧ (i : Int) < q then f else T.free i) bl l' br r wx)
    case first =>
      by_cases hp : p < l.size
      · have HS := Lib.hid hS
        clear hS l0
        go_wp2_with fail
        refine (ih l bl 0 p q f _ hlt HS.out.ol (by omega) HS.out.tl (St.dupL HS.out) hpq hp hq (by omega) hq2).mono ?_
        rintro e w1 ⟨rfl, m⟩
        go_wp2_with fail
        go_meet
        case rel => exact HS.out.left m
      · have HS := Lib.hid hS
        clear hS l0
        go_wp2_with fail
        all_goals
          go_meet
          case rel => exact ⟨l, rfl, HS.out.congr fun i hi => by rw [if_neg (by omega)]⟩
    case rest =>
      obtain ⟨l', hl', hS1⟩ := hcut
      clear hS k4 l0
      obtain ⟨F1, B1, M1, hN1⟩ := hS1.nd
      obtain ⟨-, -, -, -, k4, k5, -⟩ := hN1.cells
      simp only [kid, Option.map_some] at k4 k5
      clear hN1
      have Hl := Lib.hid hl'
      have HS := Lib.hid hS1
      clear hl' hS1
      go_upto_if 49 with fail
      go_cut [] from 9 (fun wx => ∃ r', r'.size = r.size ∧ St b o T w (fun i => if p ≤ i ∧ (i : Int) < q then f else T.free i) bl l' br r' wx)
      case first =>
        by_cases hr : (l.size : Int) < q
        · have hw1 : IntKind.i64.wrap (p - l.size) = p - l.size := by rw [IntKind.wrap_i64]; omega
          have hw2 : IntKind.i64.wrap (q - l.size) = q - l.size := by rw [IntKind.wrap_i64]; omega
          go_wp2_with fail
          refine (ih r br 0 (p - l.size) (q - l.size) f _ hrt HS.out.or (by omega) HS.out.tr (St.dupR HS.out) (by omega) (by omega) (by omega) (by omega) (by omega)).mono ?_
          rintro e w1 ⟨rfl, m⟩
          go_wp2_with fail
          go_meet
          case rel =>
            have e1 := Hl.out
            rw [← e1] at m
            obtain ⟨r', h1, h2⟩ := HS.out.right m
            exact ⟨r', h1, h2.congr fun i hi => markG2 e1 i⟩
        · go_wp2_with fail
          go_meet
          case rel =>
            exact ⟨r, rfl, HS.out.congr fun i hi => markG1 (by omega) i⟩
      case rest =>
        obtain ⟨r', hr', hS2⟩ := hcut
        clear k4 k5
        obtain ⟨F2, B2, M2, hN2⟩ := hS2.nd
        have hj := join_any b o bl br _ F2 B2 M2 l'.nv r'.nv _ hN2 hS2.tl.nd hS2.tr.nd (St.neL hS2) (St.neR hS2) (TR.small hS2.ol (by have := hS2.sz; omega)) (TR.small hS2.or (by have := hS2.sz; omega))
        have HS2 := Lib.hid hS2
        have Hr := Lib.hid hr'
        clear hS2 hr' hN2
        go_wp2_with fail
        refine hj.mono ?_
        rintro e w3 ⟨rfl, m⟩
        clear hj
        go_wp2
        go_end0
        exact ⟨rfl, by rw [HET.out]; exact HS2.out.joined m fun i _ => rfl⟩
  · clear hno
    go_wp2_with fail
    refine hs.mono ?_
    rintro e W hsp
    obtain ⟨rfl, bl, br, hS⟩ := St.of_split hsp n2 hb
    have hsz : (((TR.leaf n f0).size : Nat) : Int) = (TR.leaf (n / 2) f0).size + (TR.leaf (n - n / 2) f0).size := by simp only [TR.size]; omega
    have hlt : (TR.leaf (n / 2) f0).size < n := by simp only [TR.size]; omega
    have hrt : (TR.leaf (n - n / 2) f0).size < n := by simp only [TR.size]; omega
    have hnT : (TR.leaf n f0).size = n := rfl
    clear hsp hs k0 k4 hb
    generalize TR.leaf (n / 2) f0 = l at *
    generalize TR.leaf (n - n / 2) f0 = r at *
    generalize eT : TR.leaf n f0 = T at *
    have HET := Lib.hid eT
    have HnT := Lib.hid hnT
    have hps : p < T.size := by omega
    have hp2 : (T.size : Int) - 2097152 ≤ p := by omega
    have hz : T.size ≤ 1048576 := by omega
    have k4 : W.cell? ⟨b, o + 4, none⟩ = some (.pointer (some ⟨bl, 0, none⟩)) := by
      obtain ⟨F, B, M, hN⟩ := hS.nd
      exact hN.cells.2.2.2.2.1
    have l0 : W.cell? ⟨bl, 0, none⟩ = some (.int .i64 l.size) := hS.tl.nd.cells.1
    clear hnT eT
    go_upto_if 38 with fail
    go_cut [] from 9 (fun wx => ∃ l', l'.size = l.size ∧ St b o T w (fun i => if i < l.size ∧ p ≤ i ∧ (i : Int) < q then f else T.free i) bl l' br r wx)
    case first =>
      by_cases hp : p < l.size
      · have HS := Lib.hid hS
        clear hS l0
        go_wp2_with fail
        refine (ih l bl 0 p q f _ hlt HS.out.ol (by omega) HS.out.tl (St.dupL HS.out) hpq hp hq (by omega) hq2).mono ?_
        rintro e w1 ⟨rfl, m⟩
        go_wp2_with fail
        go_meet
        case rel => exact HS.out.left m
      · have HS := Lib.hid hS
        clear hS l0
        go_wp2_with fail
        all_goals
          go_meet
          case rel => exact ⟨l, rfl, HS.out.congr fun i hi => by rw [if_neg (by omega)]⟩
    case rest =>
      obtain ⟨l', hl', hS1⟩ := hcut
      clear hS k4 l0
      obtain ⟨F1, B1, M1, hN1⟩ := hS1.nd
      obtain ⟨-, -, -, -, k4, k5, -⟩ := hN1.cells
      simp only [kid, Option.map_some] at k4 k5
      clear hN1
      have Hl := Lib.hid hl'
      have HS := Lib.hid hS1
      clear hl' hS1
      go_upto_if 49 with fail
      go_cut [] from 9 (fun wx => ∃ r', r'.size = r.size ∧ St b o T w (fun i => if p ≤ i ∧ (i : Int) < q then f else T.free i) bl l' br r' wx)
      case first =>
        by_cases hr : (l.size : Int) < q
        · have hw1 : IntKind.i64.wrap (p - l.size) = p - l.size := by rw [IntKind.wrap_i64]; omega
          have hw2 : IntKind.i64.wrap (q - l.size) = q - l.size := by rw [IntKind.wrap_i64]; omega
          go_wp2_with fail
          refine (ih r br 0 (p - l.size) (q - l.size) f _ hrt HS.out.or (by omega) HS.out.tr (St.dupR HS.out) (by omega) (by omega) (by omega) (by omega) (by omega)).mono ?_
          rintro e w1 ⟨rfl, m⟩
          go_wp2_with fail
          go_meet
          case rel =>
            have e1 := Hl.out
            rw [← e1] at m
            obtain ⟨r', h1, h2⟩ := HS.out.right m
            exact ⟨r', h1, h2.congr fun i hi => markG2 e1 i⟩
        · go_wp2_with fail
          go_meet
          case rel =>
            exact ⟨r, rfl, HS.out.congr fun i hi => markG1 (by omega) i⟩
      case rest =>
        obtain ⟨r', hr', hS2⟩ := hcut
        clear k4 k5
        obtain ⟨F2, B2, M2, hN2⟩ := hS2.nd
        have hj := join_any b o bl br _ F2 B2 M2 l'.nv r'.nv _ hN2 hS2.tl.nd hS2.tr.nd (St.neL hS2) (St.neR hS2) (TR.small hS2.ol (by have := hS2.sz; omega)) (TR.small hS2.or (by have := hS2.sz; omega))
        have HS2 := Lib.hid hS2
        have Hr := Lib.hid hr'
        clear hS2 hr' hN2
        go_wp2_with fail
        refine hj.mono ?_
        rintro e w3 ⟨rfl, m⟩
        clear hj
        go_wp2
        go_end0
        exact ⟨rfl, by rw [HET.out]; exact HS2.out.joined m fun i _ => rfl⟩

/-- mark, at every tree. -/
theorem mark_any (t : TR) (b o : Nat) (p q : Int) (f : Bool) (w : World) (ok : t.Ok) (hz : t.size ≤ 1048576) (hT : Tr w b o t) (hd : (b :: t.fp).Nodup) (hpq : p < q) (hps : p < t.size) (hq : 0 < q) (hp2 : (t.size : Int) - 2097152 ≤ p) (hq2 : q ≤ 2097152) :
    Calls Try.prog 50 #[np b o, .int .i64 p, .int .i64 q, .bool f] w fun e w' => e = .returned (.tuple #[]) ∧ MkR b o t p q f w w' := by
  have key : ∀ n, Lesser n := by
    intro n
    induction n with
    | zero => exact fun t b o p q f w h => absurd h (Nat.not_lt_zero _)
    | succ n ih =>
      intro t b o p q f w hlt ok hz hT hd hpq hps hq hp2 hq2
      by_cases hc : p ≤ 0 ∧ (t.size : Int) ≤ q
      · exact mark_all t b o p q f w hT hc.1 hc.2
      · have ih' : Lesser t.size := fun t' b o p q f w h => ih t' b o p q f w (by omega)
        cases t with
        | leaf m f0 => exact mark_leaf m f0 b o p q f w ih' hz hT hpq hps hq hp2 hq2 hc
        | node bl l br r => exact mark_node bl l br r b o p q f w ih' ok hz hT hd hpq hps hq hp2 hq2 hc
  exact key (t.size + 1) t b o p q f w (Nat.lt_succ_self _) ok hz hT hd hpq hps hq hp2 hq2

end Go.Proofs.Ytklknkeanmjhnaa.Stretch
