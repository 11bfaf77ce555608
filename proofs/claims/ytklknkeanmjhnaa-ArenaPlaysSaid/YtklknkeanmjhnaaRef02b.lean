/- The document's own arena of layer 2: At, free, New. -/
import Derived.Test.YtklknkeanmjhnaaRef02
import Derived.Laws.MakeOwn
namespace Go.Proofs.Ytklknkeanmjhnaa.Ref02
open Go.RowKit Go.Proofs.Ytklknkeanmjhnaa.Base Go.Proofs.Ytklknkeanmjhnaa.Arena Go.Proofs.Ytklknkeanmjhnaa.Stretch Go.Proofs.Ytklknkeanmjhnaa.Regs Go.Proofs.Ytklknkeanmjhnaa.Law02

theorem at_any (b g : Nat) (lv : Value) (s : AS) (q : Int) (id i : Int) (w : World) (h : RA w b g lv s q) (ho : s.Ok) (hi1 : -9223372036854775808 ≤ i) (hi2 : i ≤ 9223372036854775807) :
    Calls Try.prog 23 #[ptr b, .int .i64 id, .int .i64 i] w fun e w' => e = .returned (.tuple #[.int .i64 (placeV s id i).1, .int .i64 (placeV s id i).2]) ∧ w = w' := by
  have hl : s.L.length ≤ 1048576 := Nat.le_trans ho.len_le ho.sz
  unfold placeV
  cases hr : Regs.look s.L id with
  | none =>
    have hf := Lib.hid (find_none b g lv s q id w h hl hr)
    clear h hr
    simp only
    go_enter Try.func23, Try.ntmps23
    go_wp2_with fail
    refine hf.out.mono ?_
    rintro e w1 ⟨rfl, rfl⟩
    go_wp2
    go_ret2
    exact ⟨rfl, rfl⟩
  | some r =>
    have hf := Lib.hid (find_some b g lv s q id r w h hl ho.ids hr)
    obtain ⟨hm, he⟩ := look_mem hr
    obtain ⟨n1, n2⟩ := ho.reg r hm
    have hsz := ho.sz
    obtain ⟨a, cap, rfl, hc⟩ := h.rl.form
    have k1 : w.cell? ⟨b, 1, none⟩ = some (.slice a s.L.length cap) := h.at_.cell rfl
    have HC := Lib.hid hc
    clear h hr hc hm he
    simp only
    by_cases h0 : i < 0
    · rw [if_neg (by omega)]
      go_enter Try.func23, Try.ntmps23
      go_wp2_with fail
      refine hf.out.mono ?_
      rintro e w1 ⟨k, rfl, hk, rfl⟩
      clear hk
      go_wp2
      go_ret2
      exact ⟨rfl, rfl⟩
    · have h0' : decide (i < 0) = false := by simpa using h0
      by_cases h1 : i < r.n
      · rw [if_pos (by omega)]
        have h1' : decide ((r.n : Int) ≤ i) = false := by simp; omega
        go_enter Try.func23, Try.ntmps23
        go_wp2_with fail
        refine hf.out.mono ?_
        rintro e w1 ⟨k, rfl, hk, rfl⟩
        obtain ⟨u, rfl, -, -, c1, c2⟩ := HC.out k r hk
        have hkl : (k : Int) < s.L.length := by have := (List.getElem?_eq_some_iff.1 hk).1; omega
        clear hk
        go_wp2
        go_ret2
        exact ⟨rfl, rfl⟩
      · rw [if_neg (by omega)]
        have h1' : decide ((r.n : Int) ≤ i) = true := by simp; omega
        go_enter Try.func23, Try.ntmps23
        go_wp2_with fail
        refine hf.out.mono ?_
        rintro e w1 ⟨k, rfl, hk, rfl⟩
        obtain ⟨u, rfl, -, -, c1, c2⟩ := HC.out k r hk
        have hkl : (k : Int) < s.L.length := by have := (List.getElem?_eq_some_iff.1 hk).1; omega
        clear hk
        go_wp2
        go_ret2
        exact ⟨rfl, rfl⟩

theorem drawn_trans {w w1 : World} (h : Drawn w w1) (n : Nat) : Drawn w (w1.drewN n) := by
  obtain ⟨k, rfl⟩ := h
  exact ⟨k + n, by rw [World.drewN_drewN]⟩

theorem drawn_cell {w w' : World} (h : Drawn w w') {a : Addr} {v : Value} (hc : w.cell? a = some v) : w'.cell? a = some v := by
  obtain ⟨k, rfl⟩ := h
  exact hc

def freeB (L : List Reg) (p : Nat) : Bool := L.all fun r => !Reg.has r p

theorem free_any (b g : Nat) (lv : Value) (s : AS) (q : Int) (p : Nat) (w : World) (h : RA w b g lv s q) (ho : s.Ok) (hp : p < s.size) :
    Calls Try.prog 51 #[ptr b, .int .i64 p] w fun e w' => e = .returned (.bool (s.fr p)) ∧ Drawn w w' := by
  have hl : s.L.length ≤ 1048576 := Nat.le_trans ho.len_le ho.sz
  have hsz := ho.sz
  have hfr : s.fr p = freeB s.L p := by unfold AS.fr freeB; simp [hp]
  rw [hfr]
  obtain ⟨a, cap, rfl, hc⟩ := h.rl.form
  have k1 : w.cell? ⟨b, 1, none⟩ = some (.slice a s.L.length cap) := h.at_.cell rfl
  have hreg := ho.reg
  have HC := Lib.hid (And.intro hc (And.intro hreg k1))
  clear hc h hfr hreg ho k1
  generalize s.L = L at *
  go_enter Try.func51, Try.ntmps51
  go_wp2_with fail
  go_loopw [5] (fun i wr => ∃ k : Nat, k ≤ L.length ∧ i = .int .i64 k ∧ Drawn w wr ∧ ∀ j y, j < k → L[j]? = some y → Reg.has y p = false) (fun i _ => L.length - (intOf i).toNat)
  case atStart => exact ⟨0, Nat.zero_le _, rfl, ⟨0, rfl⟩, fun j y hj => absurd hj (Nat.not_lt_zero _)⟩
  case round =>
    obtain ⟨k, hk, rfl, hd, hno⟩ := hrel
    have k1 := drawn_cell hd HC.out.2.2
    by_cases hlt : k < L.length
    · obtain ⟨y, hy⟩ : ∃ y, L[k]? = some y := ⟨_, List.getElem?_eq_getElem hlt⟩
      obtain ⟨u, rfl, -, -, c1, c2⟩ := HC.out.1 k y hy
      obtain ⟨n1, n2⟩ := HC.out.2.1 y (List.mem_of_getElem? hy)
      have c1 := drawn_cell hd c1
      have c2 := drawn_cell hd c2
      have hlt' : (k : Int) < L.length := by omega
      have HN := Lib.hid (And.intro hno (And.intro hy hd))
      have hw : IntKind.i64.wrap ((y.base : Int) + y.n) = (y.base : Int) + y.n := by rw [IntKind.wrap_i64]; omega
      clear hno hd hy
      by_cases h1 : y.base ≤ p
      · have h1' : decide ((y.base : Int) ≤ p) = true := by simp; omega
        by_cases h2 : p < y.base + y.n
        · have h2' : decide ((p : Int) < (y.base : Int) + y.n) = true := by simp; omega
          have hres : freeB L p = false := by
            unfold freeB
            rw [List.all_eq_false]
            exact ⟨y, List.mem_of_getElem? HN.out.2.1, by simp [Reg.has, h1, h2]⟩
          have HRS := Lib.hid hres
          clear hres
          go_wp2_with fail
          go_quiet (fail)
          go_wp2
          go_ret
          exact ⟨by rw [HRS.out]; rfl, drawn_trans HN.out.2.2 nq⟩
        · have h2' : decide ((p : Int) < (y.base : Int) + y.n) = false := by simp; omega
          go_wp2_with fail
          go_quiet (fail)
          go_wp2
          go_roundw
          case rel => exact ⟨k + 1, by omega, by go_num, drawn_trans HN.out.2.2 nq, fun j z hj hz => by
            by_cases e2 : j = k
            · subst e2
              rw [HN.out.2.1] at hz
              injection hz with hz
              subst hz
              simp [Reg.has]; omega
            · exact HN.out.1 j z (by omega) hz⟩
          case measure => simp [intOf]; omega
      · have h1' : decide ((y.base : Int) ≤ p) = false := by simp; omega
        go_wp2_with fail
        go_quiet (fail)
        go_wp2
        go_roundw
        case rel => exact ⟨k + 1, by omega, by go_num, drawn_trans HN.out.2.2 nq, fun j z hj hz => by
          by_cases e2 : j = k
          · subst e2
            rw [HN.out.2.1] at hz
            injection hz with hz
            subst hz
            simp [Reg.has]; omega
          · exact HN.out.1 j z (by omega) hz⟩
        case measure => simp [intOf]; omega
    · obtain rfl : k = L.length := by omega
      have hf : ¬ ((L.length : Int) < L.length) := by omega
      have hres : freeB L p = true := by
        unfold freeB
        rw [List.all_eq_true]
        intro y hy
        obtain ⟨j, hj, e⟩ := List.getElem_of_mem hy
        rw [hno j y hj (by rw [List.getElem?_eq_getElem hj, e])]
        rfl
      have HRS := Lib.hid (And.intro hres hd)
      clear hres hno hd
      go_wp2
      go_ret
      exact ⟨by rw [HRS.out.1]; rfl, HRS.out.2⟩

theorem infoN : (Try.prog.info? 3).map (fun i => (i.zero, i.size, i.bytes)) = some (some (.int .i64 0), 1, 8) := by kernel_rfl

theorem make_run (n : Nat) (hn : n ≤ 1048576) (w : World) : ∃ cs : Array Value, cs.size = n ∧ (∀ j, j < n → cs[j]? = some (.int .i64 0)) ∧
    (Instr.makeSlice 32 (.int .i64 (n : Int)) (.int .i64 (n : Int))).run Try.prog w = .ok (.slice (some ⟨w.heap.size, 0, none⟩) n n) (w.alloc (.cells cs 3)) := by
  obtain ⟨i0, hi0, hz0, hz1, hz2⟩ := info_parts infoN
  have hr := run_make (P := Try.prog) w 32 3 i0 (.int .i64 0) Try.underlying32 hi0 hz0 .i64 .i64 (n : Int) (n : Int) (by omega) (Int.le_refl _) (by rw [hz2]; omega) (by omega)
  rw [Int.toNat_natCast, hz1, Nat.mul_one] at hr
  refine ⟨_, ?_, ?_, hr⟩
  · simp [madeCells]
  · intro j hj
    simp [madeCells, Value.cells, Nat.mod_one, hj]

set_option maxRecDepth 100000 in
theorem new_at (n : Nat) (hn : n ≤ 1048576) (q : Int) (size : Int) (h : (size < 0 ∧ n = 0) ∨ size = n) (w : World) :
    Calls Try.prog 18 #[.int .i64 size, .int .i64 q] w fun e w' => ∃ g, e = .returned (.agg #[.int .i64 n, .slice none 0 0, .slice (some ⟨g, 0, none⟩) n n, .int .i64 0, .int .i64 0, .int .i64 q]) ∧ w.heap.size ≤ g ∧
      (∃ cc : Array Value, At w' g 3 cc ∧ cc.size = n ∧ ∀ p, p < n → cc[p]? = some (.int .i64 0)) ∧ Keep (fun _ => False) w w' := by
  rcases h with ⟨h0, h1⟩ | rfl
  · obtain ⟨cs, c1, c2, hmk⟩ := make_run n hn (w.alloc (.cells #[.int .i64 0, .slice none 0 0, .slice none 0 0, .int .i64 0, .int .i64 0, .int .i64 0] 34))
    have hz : (w.alloc (.cells #[.int .i64 0, .slice none 0 0, .slice none 0 0, .int .i64 0, .int .i64 0, .int .i64 0] 34)).heap.size = w.heap.size + 1 := by simp
    rw [hz] at hmk
    have a0 := At.new w #[.int .i64 0, .slice none 0 0, .slice none 0 0, .int .i64 0, .int .i64 0, .int .i64 0] 34
    have a1 := At.new (w.alloc (.cells #[.int .i64 0, .slice none 0 0, .slice none 0 0, .int .i64 0, .int .i64 0, .int .i64 0] 34)) cs 3
    rw [hz] at a1
    have HC := Lib.hid (And.intro c1 (And.intro c2 (And.intro a0 a1)))
    clear c1 c2 a0 a1 hz
    rw [h1] at hmk ⊢
    simp only [Int.ofNat_zero] at hmk ⊢
    go_enter Try.func18, Try.ntmps18
    go_wp2_with fail
    have HN := Lib.hid (show (∃ cc : Array Value, At ((w.alloc (.cells #[.int .i64 0, .slice none 0 0, .slice (some ⟨w.heap.size + 1, 0, none⟩) 0 0, .int .i64 0, .int .i64 0, .int .i64 q] 34)).alloc (.cells cs 3)) (w.heap.size + 1) 3 cc ∧ cc.size = 0 ∧ ∀ p, p < 0 → cc[p]? = some (.int .i64 0)) ∧ Keep (fun _ => False) w ((w.alloc (.cells #[.int .i64 0, .slice none 0 0, .slice (some ⟨w.heap.size + 1, 0, none⟩) 0 0, .int .i64 0, .int .i64 0, .int .i64 q] 34)).alloc (.cells cs 3)) from
      ⟨⟨cs, by have h5 := At.new (w.alloc (.cells #[.int .i64 0, .slice none 0 0, .slice (some ⟨w.heap.size + 1, 0, none⟩) 0 0, .int .i64 0, .int .i64 0, .int .i64 q] 34)) cs 3; simpa using h5, by rw [HC.out.1, h1], fun p hp => absurd hp (Nat.not_lt_zero _)⟩, ((Keep.refl _ w).alloc _).alloc _⟩)
    exact bodyPost_ret (v := .agg #[.int .i64 0, .slice none 0 0, .slice (some ⟨w.heap.size + 1, 0, none⟩) 0 0, .int .i64 0, .int .i64 0, .int .i64 q]) (by simp [results, Try.results18, go_sem]) rfl ⟨_, rfl, by omega, HN.out.1, HN.out.2⟩
  · have h1 : ¬ ((n : Int) < 0) := by omega
    have h2 : ¬ (1048576 < (n : Int)) := by omega
    obtain ⟨cs, c1, c2, hmk⟩ := make_run n hn (w.alloc (.cells #[.int .i64 0, .slice none 0 0, .slice none 0 0, .int .i64 0, .int .i64 0, .int .i64 0] 34))
    have hz : (w.alloc (.cells #[.int .i64 0, .slice none 0 0, .slice none 0 0, .int .i64 0, .int .i64 0, .int .i64 0] 34)).heap.size = w.heap.size + 1 := by simp
    rw [hz] at hmk
    have a0 := At.new w #[.int .i64 0, .slice none 0 0, .slice none 0 0, .int .i64 0, .int .i64 0, .int .i64 0] 34
    have a1 := At.new (w.alloc (.cells #[.int .i64 0, .slice none 0 0, .slice none 0 0, .int .i64 0, .int .i64 0, .int .i64 0] 34)) cs 3
    rw [hz] at a1
    have HC := Lib.hid (And.intro c1 (And.intro c2 (And.intro a0 a1)))
    clear c1 c2 a0 a1 hz
    go_enter Try.func18, Try.ntmps18
    go_wp2_with fail
    have HN := Lib.hid (show (∃ cc : Array Value, At ((w.alloc (.cells #[.int .i64 n, .slice none 0 0, .slice (some ⟨w.heap.size + 1, 0, none⟩) n n, .int .i64 0, .int .i64 0, .int .i64 q] 34)).alloc (.cells cs 3)) (w.heap.size + 1) 3 cc ∧ cc.size = n ∧ ∀ p, p < n → cc[p]? = some (.int .i64 0)) ∧ Keep (fun _ => False) w ((w.alloc (.cells #[.int .i64 n, .slice none 0 0, .slice (some ⟨w.heap.size + 1, 0, none⟩) n n, .int .i64 0, .int .i64 0, .int .i64 q] 34)).alloc (.cells cs 3)) from
      ⟨⟨cs, by have h5 := At.new (w.alloc (.cells #[.int .i64 n, .slice none 0 0, .slice (some ⟨w.heap.size + 1, 0, none⟩) n n, .int .i64 0, .int .i64 0, .int .i64 q] 34)) cs 3; simpa using h5, HC.out.1, HC.out.2.1⟩, ((Keep.refl _ w).alloc _).alloc _⟩)
    exact bodyPost_ret (v := .agg #[.int .i64 n, .slice none 0 0, .slice (some ⟨w.heap.size + 1, 0, none⟩) n n, .int .i64 0, .int .i64 0, .int .i64 q]) (by simp [results, Try.results18, go_sem]) rfl ⟨_, rfl, by omega, HN.out.1, HN.out.2⟩

end Go.Proofs.Ytklknkeanmjhnaa.Ref02
