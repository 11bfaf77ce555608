/- append of all rules of a slice to an empty one (layer 6); the argument that is a slice of rules. -/
import Derived.Test.YtcdemlfkoknekaaOLr06
import Derived.Laws.OwnMore
import Derived.Deep.Slices
import Derived.SizedLaws
namespace Go.Proofs.Ytcdemlfkoknekaa.Ref06
open Go.ChangeShapes Go.WideShapes Go.RowKit Go.Proofs.Ytcdemlfkoknekaa.Base

theorem lflat_of {L : List LN} {j : Nat} {u : Value} (h : (lflat L)[j]? = some u) : ∃ i r, L[i]? = some r ∧ ((j = i * 3 ∧ u = str r.name) ∨ (j = i * 3 + 1 ∧ u = str r.text) ∨ (j = i * 3 + 2 ∧ u = .int .i64 r.place)) := by
  have hj := (List.getElem?_eq_some_iff.1 h).1
  rw [lflat_length] at hj
  have hi : j / 3 < L.length := by omega
  have hr : L[j / 3]? = some L[j / 3] := List.getElem?_eq_getElem hi
  obtain ⟨f0, f1, f2⟩ := lflat_at L (j / 3) _ hr
  refine ⟨j / 3, _, hr, ?_⟩
  have hm : j % 3 = 0 ∨ j % 3 = 1 ∨ j % 3 = 2 := by omega
  rcases hm with hm | hm | hm
  · have e : j = j / 3 * 3 := by omega
    rw [← e, h] at f0
    injection f0 with f0
    exact .inl ⟨e, f0⟩
  · have e : j = j / 3 * 3 + 1 := by omega
    rw [← e, h] at f1
    injection f1 with f1
    exact .inr (.inl ⟨e, f1⟩)
  · have e : j = j / 3 * 3 + 2 := by omega
    rw [← e, h] at f2
    injection f2 with f2
    exact .inr (.inr ⟨e, f2⟩)

theorem add_lit (bl off n : Nat) : (⟨bl, off, none⟩ : Addr).add n = ⟨bl, off + n, none⟩ := by
  unfold Addr.add
  split
  · rename_i hz
    rw [hz, Nat.add_zero]
  · rfl

theorem copy_any (W : World) (a : Option Addr) (cap : Nat) (L : List LN) (hL : LS W a L) (hlen : L.length ≤ 1000000) (ha : (a = none ∧ cap = 0 ∧ L = []) ∨ ∃ x, a = some x) (ty : TypeId) :
    ∃ v' w', (Builtin.append_ #[23, 23] ty #[.slice (some ⟨W.heap.size, 0, none⟩) 0 0, .slice a L.length cap]).run Try.prog (W.alloc (.cells #[] 31)) = .ok v' w' ∧ OLr w' v' L ∧ Keep (fun _ => False) W w' := by
  have q := (Keep.refl (fun _ => False) W).alloc (.cells #[] 31)
  have hown : (W.alloc (.cells #[] 31)).ownsRow 0 31 3 (.slice (some ⟨W.heap.size, 0, none⟩) 0 0) 0 [] := World.ownsRow_lit W #[] 0 (Nat.zero_le _) (Nat.zero_le _) rfl
  obtain ⟨i0, hi0, hz0, hz1, hz2⟩ := info_parts infoLr
  rcases ha with ⟨rfl, rfl, rfl⟩ | ⟨x, rfl⟩
  · exact ⟨_, _, run_append_owned_none _ 0 23 ty 31 i0 3 Try.underlying23 hi0 _ _ _ hown, hown, q⟩
  · have hL' := hL.keep q (fun _ _ h => h)
    obtain ⟨v', w', hrun, h2, h3, _, _⟩ := run_append_own_at (P := Try.prog) (W.alloc (.cells #[] 31)) 0 23 ty 31 i0 (.agg #[.string ⟨#[]⟩, .string ⟨#[]⟩, .int .i64 0]) 3 40 Try.underlying23 hi0 hz0 hz1 hz2 rfl (by omega) _ 0 [] hown x L.length cap (lflat L) (lflat_length L)
      (fun j u hu => by
        obtain ⟨i, r, hr, hc⟩ := lflat_of hu
        obtain ⟨bl, off, hx, -, c0, c1, c2⟩ := hL'.get hr
        injection hx with hx
        subst hx
        rw [add_lit]
        rcases hc with ⟨rfl, rfl⟩ | ⟨rfl, rfl⟩ | ⟨rfl, rfl⟩
        · exact c0
        · exact c1
        · exact c2)
      (fun u hu => by
        obtain ⟨j, hj⟩ := List.mem_iff_getElem?.1 hu
        obtain ⟨i, r, -, hc⟩ := lflat_of hj
        rcases hc with ⟨-, rfl⟩ | ⟨-, rfl⟩ | ⟨-, rfl⟩ <;> rfl)
      (by simp only [maxLen]; omega) (by omega) (Nat.zero_le _)
    rw [Nat.zero_add, List.nil_append] at h2
    exact ⟨v', w', hrun, h2, q.next (lkeep_grown_r h3) (fun i hi hl => by
      have hi' : W.heap.size = i := by
        injection hi
      omega)⟩

/-- The rule whose cells lie at an address. -/
def bytesAt (w : World) (a : Addr) : List UInt8 := match w.cell? a with | some (.string s) => s.data.toList | _ => []
def numAt (w : World) (a : Addr) : Int := match w.cell? a with | some (.int _ n) => n | _ => 0
def lineAt (w : World) (bl o : Nat) : LN := ⟨bytesAt w ⟨bl, o, none⟩, bytesAt w ⟨bl, o + 1, none⟩, numAt w ⟨bl, o + 2, none⟩⟩
theorem bytesAt_of {w : World} {a : Addr} {l : List UInt8} (h : w.cell? a = some (str l)) : bytesAt w a = l := by
  unfold bytesAt
  rw [h]
theorem numAt_of {w : World} {a : Addr} {k : IntKind} {n : Int} (h : w.cell? a = some (.int k n)) : numAt w a = n := by
  unfold numAt
  rw [h]

theorem cellsL : Try.prog.cellsOf 31 = 3 := by kernel_rfl
theorem cellsS : Try.prog.cellsOf 9 = 1 := by kernel_rfl
theorem cellsI : Try.prog.cellsOf 3 = 1 := by kernel_rfl
theorem bytesL : Try.prog.bytesOf 31 = 40 := by kernel_rfl

theorem line_trod {H : Type} {enc : TypeId × Value → H} {W : World} {sp : Nat → Bool} {hd : Bool} {fuel : Nat} {cs : List Value} {d : DataW H} {p : List MemPlace}
    (hl : cs.length = 3) (hf : DataW.trod enc Try.prog W 0 sp hd fuel 31 cs = some (d, p)) : ∃ r : LN, cs = (lcells r).toList ∧ d = .agg [.lit (.string r.name), .lit (.string r.text), .lit (.int .i64 r.place)] := by
  match cs, hl with
  | [a0, a1, a2], _ =>
    obtain ⟨xs, n, -, hx, -, hxl, hg⟩ := DataW.trod_struct Try.underlying31 hf
    match xs, hxl with
    | [x0, x1, x2], _ =>
      have h0 : DataW.trod enc Try.prog W 0 sp hd n 9 (([a0, a1, a2].drop 0).take (Try.prog.cellsOf 9)) = some x0 := hg 0 _ rfl
      have h1 : DataW.trod enc Try.prog W 0 sp hd n 9 (([a0, a1, a2].drop 1).take (Try.prog.cellsOf 9)) = some x1 := hg 1 _ rfl
      have h2 : DataW.trod enc Try.prog W 0 sp hd n 3 (([a0, a1, a2].drop 2).take (Try.prog.cellsOf 3)) = some x2 := hg 2 _ rfl
      rw [cellsS] at h0 h1
      rw [cellsI] at h2
      obtain ⟨s0, r0, e0, -⟩ := DataW.trod_string Try.underlying9 (x := x0) h0
      obtain ⟨s1, r1, e1, -⟩ := DataW.trod_string Try.underlying9 (x := x1) h1
      obtain ⟨n2, r2, e2, -⟩ := DataW.trod_int Try.underlying3 (x := x2) h2
      simp at r0 r1 r2
      subst r0 r1 r2
      injection hx with hx hx'
      refine ⟨⟨s0.data.toList, s1.data.toList, n2⟩, rfl, ?_⟩
      rw [hx, e0, e1, e2]
      rfl

theorem weights_all {H : Type} {P : Program} {e : TypeId} {d : DataW H} : ∀ {ds : List (DataW H)}, d ∈ ds → ∀ n ∈ d.weights P e, n ∈ DataW.weightsAll P e ds
  | x :: ds, hd, n, hn => by
    simp only [DataW.weightsAll, List.mem_append]
    rcases List.mem_cons.1 hd with rfl | hd
    · exact .inl hn
    · exact .inr (weights_all hd n hn)

theorem lines_arg {H : Type} {enc : TypeId × Value → H} {W : World} {r : Reach} {sp : Nat → Bool} {v : Value} {d : DataW H} {p : List MemPlace}
    (k : Value.okWide Try.prog W r 0 23 v) (h : DataW.Trod enc Try.prog W 0 sp true 23 v d p) (z : (DataW.weightsEach Try.prog [23] [d]).all (· ≤ reachBytes) = true) :
    ∃ (a : Option Addr) (cap : Nat) (L : List LN), v = .slice a L.length cap ∧ ((a = none ∧ cap = 0 ∧ L = []) ∨ ∃ x, a = some x) ∧ LS W a L ∧ L.length * 40 ≤ 140737488355328 ∧ ∀ s ∈ L, s.name.length ≤ 140737488355328 ∧ s.text.length ≤ 140737488355328 := by
  obtain ⟨a, len, cap, rfl⟩ := okWide_slice Try.underlying23 k
  obtain ⟨fuel, hf⟩ := h
  have hR := reachBytes_lt
  rcases Go.Deep.open_slice Try.underlying23 hf with ⟨hcs, -⟩ | ⟨x, l, c, m, n, D, Pl, hcs, -, hl, hm, hmm, hx, hi⟩
  · simp [Value.cells] at hcs
    obtain ⟨rfl, rfl, rfl⟩ := hcs
    exact ⟨none, 0, [], rfl, .inl ⟨rfl, rfl, rfl⟩, .inl rfl, by simp, by simp⟩
  · simp [Value.cells] at hcs
    obtain ⟨rfl, rfl, rfl⟩ := hcs
    injection hx with hx hx'
    subst hx
    have hz := sized_slice z (j := 0) rfl rfl Try.underlying23
    rw [bytesL] at hz
    simp only [List.length_map, List.length_range] at hz
    have hml : len ≤ m := by rw [hmm]; split <;> omega
    have hat : ∀ i, i < len → ∃ s : LN, D i = .agg [.lit (.string s.name), .lit (.string s.text), .lit (.int .i64 s.place)] ∧ ∀ j (u : Value), (lcells s)[j]? = some u → j < 3 → W.cell? ((x.add (i * 3)).add j) = some u := by
      intro i hi'
      obtain ⟨cs', hc, ht'⟩ := hi i (by omega)
      rw [cellsL] at hc
      obtain ⟨-, hcl, hcc⟩ := World.cells?_some hc
      obtain ⟨s, rfl, hd⟩ := line_trod hcl ht'
      refine ⟨s, hd, fun j u hu hj => ?_⟩
      rw [hcc j hj, Array.getElem?_toList]
      exact hu
    have hsz : ∀ i, i < len → ∀ s : LN, D i = .agg [.lit (.string s.name), .lit (.string s.text), .lit (.int .i64 s.place)] → s.name.length ≤ 140737488355328 ∧ s.text.length ≤ 140737488355328 := by
      intro i hi' s hd
      have hw : ∀ n ∈ (D i).weights Try.prog 31, n ≤ reachBytes := fun n hn => by
        have := List.all_eq_true.1 z n (DataW.weights_mem_each (j := 0) rfl rfl n (by
          simp only [DataW.weights, Try.underlying23]
          refine List.mem_cons_of_mem _ (List.mem_append_left _ (weights_all (d := D i) ?_ n hn))
          exact List.mem_map.2 ⟨i, List.mem_range.2 hi', rfl⟩))
        simpa using this
      rw [hd] at hw
      simp [DataW.weights, Try.underlying31, DataW.weightsEach] at hw
      omega
    rcases Nat.eq_zero_or_pos len with h0 | hp
    · subst h0
      exact ⟨some x, cap, [], rfl, .inr ⟨x, rfl⟩, .inl rfl, by simp, by simp⟩
    · obtain ⟨q0, -, hq0⟩ := hat 0 hp
      have hq0 := hq0 0 _ rfl (by omega)
      obtain ⟨bl, off, spot⟩ := x
      have hs : spot = none := by simpa [Addr.add] using World.cell?_spot hq0
      subst hs
      have hb : bl < W.heap.size := by
        have := World.block_lt_of_cell? W _ hq0
        simpa [Addr.add] using this
      have hst : ∀ i, i < len → ∃ s : LN, lineAt W bl (off + i * 3) = s ∧ (s.name.length ≤ 140737488355328 ∧ s.text.length ≤ 140737488355328) ∧ W.cell? ⟨bl, off + i * 3, none⟩ = some (str s.name) ∧ W.cell? ⟨bl, off + i * 3 + 1, none⟩ = some (str s.text) ∧ W.cell? ⟨bl, off + i * 3 + 2, none⟩ = some (.int .i64 s.place) := by
        intro i hi'
        obtain ⟨s, hd, hc⟩ := hat i hi'
        have g0 := hc 0 _ rfl (by omega)
        have g1 := hc 1 _ rfl (by omega)
        have g2 := hc 2 _ rfl (by omega)
        simp only [add_lit, Nat.add_zero] at g0 g1 g2
        refine ⟨s, ?_, hsz i hi' s hd, g0, g1, g2⟩
        unfold lineAt
        rw [bytesAt_of g0, bytesAt_of g1, numAt_of g2]
      refine ⟨_, cap, (List.range len).map (fun i => lineAt W bl (off + i * 3)), by simp, .inr ⟨_, rfl⟩, .inr ⟨bl, off, rfl, hb, fun i s hs => ?_⟩, ?_, fun s hs => ?_⟩
      · rw [List.getElem?_map] at hs
        obtain ⟨i', h1, rfl⟩ := Option.map_eq_some_iff.1 hs
        obtain ⟨hi', rfl⟩ := List.getElem?_eq_some_iff.1 h1
        rw [List.length_range] at hi'
        rw [List.getElem_range]
        obtain ⟨s', e, -, hc⟩ := hst i hi'
        rw [e]
        exact hc
      · simp only [List.length_map, List.length_range]
        omega
      · simp at hs
        obtain ⟨i, hi', rfl⟩ := hs
        obtain ⟨s', e, hb, -⟩ := hst i hi'
        rw [e]
        exact hb
end Go.Proofs.Ytcdemlfkoknekaa.Ref06
