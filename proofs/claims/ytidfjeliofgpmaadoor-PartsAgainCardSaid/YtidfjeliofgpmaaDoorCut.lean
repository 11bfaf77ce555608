/- Contract of parts' Cut. -/
import Derived.Test.YtidfjeliofgpmaaDoorCmp
import Derived.Test.YtidfjeliofgpmaaDoorSplit
import Derived.Test.YtidfjeliofgpmaaDoorNum
namespace Go.Proofs.YtidfjeliofgpmaaDoor.Cut
open Go.RowKit Go.Proofs.YtidfjeliofgpmaaDoor.Base Go.Proofs.YtidfjeliofgpmaaDoor.Sets Go.Proofs.YtidfjeliofgpmaaDoor.Bytes Go.Proofs.YtidfjeliofgpmaaDoor.SetL Go.Proofs.YtidfjeliofgpmaaDoor.OL Go.Proofs.YtidfjeliofgpmaaDoor.Cls Go.Proofs.YtidfjeliofgpmaaDoor.Parts Go.Proofs.YtidfjeliofgpmaaDoor.Part Go.Proofs.YtidfjeliofgpmaaDoor.Split Go.Proofs.YtidfjeliofgpmaaDoor.Cmp Go.Proofs.YtidfjeliofgpmaaDoor.Num

/-- The cells of a *Parts. -/
def pcells (u : Value) (L : List ST) : Array Value := #[u] ++ arr8 fun i => (cls (key L) i : Int)
/-- v points to the parts by the sets L. -/
def PT (w : World) (v : Value) (L : List ST) : Prop := ∃ (b : Nat) (a : Option Addr) (N : List ST) (cap : Nat), v = .pointer (some ⟨b, 0, none⟩) ∧ At w b 55 (pcells (.slice a N.length cap) L) ∧ SL w a N ∧ Done L N

theorem pcells_size (u : Value) (L : List ST) : (pcells u L).size = 257 := by
  unfold pcells
  rw [Array.size_append, arr8_size]
  rfl
theorem pcells_0 (u : Value) (L : List ST) : (pcells u L)[0]? = some u := by
  unfold pcells
  rw [Array.getElem?_append_left (by simp)]
  rfl
theorem pcells_at (u : Value) (L : List ST) (b : Nat) (h : b < 256) : (pcells u L)[1 + b]? = some (.int .u8 (cls (key L) b : Int)) := by
  unfold pcells
  rw [Array.getElem?_append_right (by simp), show 1 + b - (#[u] : Array Value).size = b from by simp, arr8_at _ _ h]

theorem fold_set : ∀ (l : List Value) (n : Nat) (A : Array Value), 1 + n + l.length ≤ A.size → (l.zipIdx n).foldl (fun cs x => cs.setIfInBounds (1 + x.2) x.1) A = (A.toList.take (1 + n) ++ l ++ A.toList.drop (1 + n + l.length)).toArray
  | [], n, A, h => by simp
  | v :: l, n, A, h => by
    rw [List.zipIdx_cons, List.foldl_cons]
    simp only [List.length_cons] at h
    rw [fold_set l (n + 1) _ (by simp; omega)]
    congr 1
    rw [Array.toList_setIfInBounds, List.take_set, List.drop_set, if_pos (by omega), show 1 + (n + 1) = (1 + n) + 1 from by omega, List.take_add_one]
    have hl : (A.toList.take (1 + n)).length = 1 + n := by simp; omega
    have h1 : A.toList[1 + n]? = some (A.toList[1 + n]'(by simp; omega)) := List.getElem?_eq_getElem _
    rw [h1, List.set_append_right _ _ (by omega), hl, Nat.sub_self]
    simp
    congr 1
    omega

theorem fold_row (R Z : Array Value) (u : Value) (hZ : Z.size = 1 + R.size) : Array.foldl (fun (cs : Array Value) (x : Value × Nat) => cs.setIfInBounds (1 + x.snd) x.fst) (Z.setIfInBounds 0 u) R.zipIdx 0 R.size = #[u] ++ R := by
  have e : R.zipIdx.size = R.size := Array.size_zipIdx
  rw [show Array.foldl (fun (cs : Array Value) (x : Value × Nat) => cs.setIfInBounds (1 + x.snd) x.fst) (Z.setIfInBounds 0 u) R.zipIdx 0 R.size = Array.foldl (fun (cs : Array Value) (x : Value × Nat) => cs.setIfInBounds (1 + x.snd) x.fst) (Z.setIfInBounds 0 u) R.zipIdx 0 R.zipIdx.size from by rw [e]]
  rw [← Array.foldl_toList, Array.toList_zipIdx, fold_set _ _ _ (by simp; omega)]
  apply Array.ext'
  obtain ⟨z⟩ := Z
  obtain ⟨r⟩ := R
  simp at hZ ⊢
  cases z with
  | nil => simp at hZ; omega
  | cons y z => simp at hZ ⊢; omega

theorem zeroP : (Tryd.prog.info? 55).map (fun i => (i.zero, i.size)) = some (some (.agg (#[.slice none 0 0] ++ arr8 fun _ => 0)), 257) := by kernel_rfl
theorem run_zeroP (w : World) : (zeroValue 55).run Tryd.prog w = .ok (.agg (#[.slice none 0 0] ++ arr8 fun _ => 0)) w := by
  cases h : Tryd.prog.info? 55 with
  | none =>
    have hz := zeroP
    rw [h] at hz
    simp at hz
  | some i =>
    have hz := zeroP
    rw [h] at hz
    simp only [Option.map_some] at hz
    injection hz with hz
    injection hz with hz _
    simp [zeroValue, typeInfo, h, hz, Sem.run_bind]

set_option maxRecDepth 100000 in
theorem cut_any {w : World} {a : Option Addr} {L : List ST} (cap : Nat) (hT : Tab w) (hl : L.length ≤ 1000) (hok : ∀ s ∈ L, s.Ok) (hL : SL w a L) :
    Calls Tryd.prog 9 #[.slice a L.length cap] w fun e w' => ∃ v, e = .returned v ∧ PT w' v L ∧ Keep (fun _ => False) w w' := by
  have htab : 0 < w.heap.size := World.block_lt_of_cell? w _ (hT 0 (by decide))
  have HL := Lib.hid (And.intro hok (And.intro (fun (w' : World) (q : Keep (fun _ => False) w w') => hL.keep q (fun _ _ h => h)) (And.intro (fun (w' : World) (q : Keep (fun _ => False) w w') => hT.keep q) htab)))
  clear hT hok hL htab
  go_enter Tryd.func9, Tryd.ntmps9
  go_wp2_with fail
  refine (of_any 0 255 (by decide) (by decide) w).mono ?_
  rintro e w1 ⟨rfl, q1⟩
  have h0 := part_nil
  obtain ⟨S, hS⟩ : ∃ S, ST.range 0 255 = S := ⟨_, rfl⟩
  rw [hS] at h0 ⊢
  have P1 := Lib.hid (And.intro h0 q1)
  clear h0 q1 hS
  go_wp2_with fail
  have hv := new_one w1 S
  have qa := P1.out.2.alloc (.cells (cells S) 35)
  have P2 := Lib.hid (And.intro hv (And.intro qa P1.out.2.size))
  clear hv qa
  generalize w1.heap.size = g0 at *
  generalize (w1.alloc (.cells (cells S) 35)) = W at *
  go_loopg [3, 10] L.length (fun gg u i wr => ∃ (k : Nat) (M : List ST), i = .int .i64 k ∧ k + gg = L.length ∧ Part (L.take k) M ∧ OL wr u M ∧ (∀ g, u.ownBlock = some g → w.heap.size ≤ g) ∧ Keep (fun _ => False) w wr)
  case atStart =>
    refine ⟨0, [S], rfl, by omega, (by rw [List.take_zero]; exact P1.out.1), P2.out.1, fun g hg => ?_, P2.out.2.1⟩
    have h2 : some g0 = some g := hg
    injection h2 with h2
    have := P2.out.2.2
    omega
  case round =>
    obtain ⟨k, M, rfl, hk, hM, hu, hb, hq⟩ := hrel
    clear P2 P1
    by_cases hlt : k < L.length
    · have hlt' : (k : Int) < L.length := by omega
      obtain ⟨s, hs⟩ : ∃ s, L[k]? = some s := ⟨L[k], List.getElem?_eq_getElem hlt⟩
      obtain ⟨bl, off, rfl, hbl, -⟩ := (HL.out.2.1 _ hq).range hs
      have hc := (HL.out.2.1 _ hq).cells hs
      have c0 : wr.cell? ⟨bl, off + k * 4, none⟩ = some (.int .u64 s.x0) := hc 0 (by omega)
      have c1 : wr.cell? ⟨bl, off + k * 4 + 1, none⟩ = some (.int .u64 s.x1) := hc 1 (by omega)
      have c2 : wr.cell? ⟨bl, off + k * 4 + 2, none⟩ = some (.int .u64 s.x2) := hc 2 (by omega)
      have c3 : wr.cell? ⟨bl, off + k * 4 + 3, none⟩ = some (.int .u64 s.x3) := hc 3 (by omega)
      have hso : s.Ok := HL.out.1 s (List.mem_of_getElem? hs)
      have H := Lib.hid (And.intro hk (And.intro hM (And.intro hu (And.intro hb (And.intro hq (And.intro hso hs))))))
      clear hk hM hu hb hq hso hs hc
      go_wp2_with fail
      have qa := (Keep.refl (fun _ => False) wr).alloc (.cells (cells s) 35)
      refine (split_any H.out.2.1 (H.out.2.2.1.keep qa (fun _ _ h => h)) H.out.2.2.2.2.2.1).mono ?_
      rintro e w2 ⟨v', rfl, hv', q2, hb2⟩
      obtain ⟨hk, hM, hu, hb, hq, hso, hs⟩ := H.out
      have hq2 : Keep (fun _ => False) w w2 := (hq.trans qa).next q2 (fun i hi hl => by
        have := hb i hi
        omega)
      have hb' : ∀ g, v'.ownBlock = some g → w.heap.size ≤ g := fun g hg => by
        rcases hb2 g hg with h | h
        · exact hb g h
        · have := hq.size
          simp at h
          omega
      have hM2 : Part (L.take (k + 1)) (splitL s M) := by
        rw [List.take_add_one, hs]
        exact part_split hM hso
      have H2 := Lib.hid (And.intro hk (And.intro hM2 (And.intro hv' (And.intro hb' hq2))))
      clear hk hM hu hb hq hso hs hM2 hv' hb' hq2 q2 hb2 qa H c0 c1 c2 c3
      go_wp2_with fail
      go_roundg (L.length - (k + 1))
      case measure => have := H2.out.1; omega
      case rel => exact ⟨k + 1, _, by go_num, by have := H2.out.1; omega, H2.out.2.1, H2.out.2.2.1, H2.out.2.2.2.1, H2.out.2.2.2.2⟩
    · have hkL : k = L.length := by omega
      subst hkL
      rw [List.take_length] at hM
      obtain ⟨s0, hs0⟩ : ∃ s, M[0]? = some s := by
        obtain ⟨s, hs, -⟩ := hM.cover 0 (by decide)
        have := List.length_pos_of_mem hs
        exact ⟨M[0], List.getElem?_eq_getElem this⟩
      obtain ⟨g, cap', rfl, hg, hgl, -, -⟩ := hu.get hs0
      have hgt : g ≠ 0 := by
        have := hb g hg
        have := HL.out.2.2.2
        omega
      have H := Lib.hid (And.intro hM (And.intro hu (And.intro hb (And.intro hq (And.intro hg hgt)))))
      clear hM hu hb hq hg hgt hk hs0 hgl
      go_wp2_with fail
      refine (sort_any H.out.1 H.out.2.1 H.out.2.2.2.2.1 H.out.2.2.2.2.2 (HL.out.2.2.1 _ H.out.2.2.2.1)).mono ?_
      rintro e w2 ⟨rfl, N, hN, hv2, q2⟩
      obtain ⟨hM, hu, hb, hq, hg, hgt⟩ := H.out
      have hq2 : Keep (fun _ => False) w w2 := hq.next q2 (fun i hi hl => by
        have := hb g hg
        have hi' : i = g := hi
        omega)
      obtain ⟨va, vc, e, hsl, hva⟩ := hv2.form
      injection e with e1 e2 e3
      subst e1 e3
      rw [e2]
      have P := Lib.hid (And.intro hN (And.intro hsl hq2))
      clear hM hu hb hq hg hgt hN hsl hq2 q2 hv2 H hva e2
      go_wp2_with fail
      refine (numbers_any cap' P.out.1 P.out.2.1 (HL.out.2.2.1 _ P.out.2.2)).mono ?_
      rintro e w3 ⟨rfl, q3⟩
      have hz := run_zeroP
      have hfold := fold_row (arr8 fun i => (cls (key L) i : Int)) (#[.slice none 0 0] ++ arr8 fun _ => 0) (.slice (some ⟨g, 0, none⟩) N.length cap') (by rw [Array.size_append, arr8_size, arr8_size]; rfl)
      have hZs : (#[.slice none 0 0] ++ arr8 fun _ => 0 : Array Value).size = 257 := by rw [Array.size_append, arr8_size]; rfl
      have hRs := arr8_size (fun i => (cls (key L) i : Int))
      obtain ⟨R, hR⟩ : ∃ R, arr8 (fun i => (cls (key L) i : Int)) = R := ⟨_, rfl⟩
      obtain ⟨Z, hZ⟩ : ∃ Z, (#[.slice none 0 0] ++ arr8 fun _ => 0 : Array Value) = Z := ⟨_, rfl⟩
      rw [hR] at hfold hRs ⊢
      rw [hZ] at hfold hZs
      simp only [hZ] at hz
      clear hZ
      have hZ0 : ¬ Z = #[] := fun e => by rw [e] at hZs; simp at hZs
      have P3 := Lib.hid (And.intro P.out.1 (And.intro (P.out.2.1.keep q3 (fun _ _ h => h)) (And.intro (P.out.2.2.trans q3) hR)))
      clear q3 P hR
      rw [hRs] at hfold
      have HF := Lib.hid hfold
      clear hfold
      go_wp2_with fail
      rw [HF.out]
      go_ret
      have qf := (Keep.refl (fun _ => False) w3).alloc (.cells (#[.slice (some ⟨g, 0, none⟩) N.length cap'] ++ R) 55)
      refine ⟨_, rfl, ⟨w3.heap.size, some ⟨g, 0, none⟩, N, cap', rfl, ?_, P3.out.2.1.keep qf (fun _ _ h => h), P3.out.1⟩, P3.out.2.2.1.trans qf⟩
      unfold pcells
      rw [P3.out.2.2.2]
      exact At.new w3 _ _
end Go.Proofs.YtidfjeliofgpmaaDoor.Cut
