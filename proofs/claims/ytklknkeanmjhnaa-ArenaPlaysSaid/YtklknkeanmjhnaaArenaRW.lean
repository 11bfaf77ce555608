/- Get and Set of an arena. -/
import Derived.Test.YtklknkeanmjhnaaArena
namespace Go.Proofs.Ytklknkeanmjhnaa.Arena
open Go.RowKit Go.Proofs.Ytklknkeanmjhnaa.Base Go.Proofs.Ytklknkeanmjhnaa.Stretch Go.Proofs.Ytklknkeanmjhnaa.Regs Go.Proofs.Ytklknkeanmjhnaa.Row

/-- What Get answers. -/
def getV (s : AS) (id i : Int) : Int × Int := if (placeV s id i).2 = 0 then (s.C (placeV s id i).1.toNat, 0) else (0, (placeV s id i).2)

/-- What Set does. -/
def AS.set (s : AS) (id i v : Int) : AS := if (placeV s id i).2 = 0 then { s with C := fun p => if p = (placeV s id i).1.toNat then v else s.C p } else s

/-- Where there is such a cell: its place, as a number that is not below nought, within the cells kept. -/
theorem placeV_ok {s : AS} {id i : Int} (h : (placeV s id i).2 = 0) : ∃ r, r ∈ s.L ∧ (r.id : Int) = id ∧ ∃ p : Nat, (placeV s id i).1 = p ∧ r.base ≤ p ∧ p < r.base + r.n := by
  unfold placeV at h ⊢
  cases e : Regs.look s.L id with
  | none => rw [e] at h; simp at h
  | some r =>
    rw [e] at h
    simp only at h ⊢
    by_cases hi : 0 ≤ i ∧ i < r.n
    · simp only [if_pos hi]
      exact ⟨r, (look_mem e).1, (look_mem e).2, r.base + i.toNat, by omega, by omega, by omega⟩
    · simp only [if_neg hi] at h
      omega

theorem Row.at {w : World} {v : Value} {n : Nat} {C : Nat → Int} (h : Row w v n C) {p : Nat} (hp : p < n) : ∃ g cap, v = .slice (some ⟨g, 0, none⟩) n cap ∧ w.cell? ⟨g, p, none⟩ = some (.int .i64 (C p)) ∧ w.frozen? ⟨g, p, none⟩ = false ∧ n ≤ cap ∧ cap ≤ maxLen := by
  rcases h with ⟨_, h⟩ | ⟨g, cap, cur, rfl, ha, h1, h2, h3, h4⟩
  · omega
  · exact ⟨g, cap, rfl, ha.cell (h4 p hp), ha.frozen p, h1, h2⟩

theorem Row.put {w : World} {g n cap : Nat} {C : Nat → Int} (h : Row w (.slice (some ⟨g, 0, none⟩) n cap) n C) (p : Nat) (u : Int) : Row (w.setCell ⟨g, p, none⟩ (.int .i64 u)) (.slice (some ⟨g, 0, none⟩) n cap) n (fun j => if j = p then u else C j) := by
  rcases h with ⟨h, _⟩ | ⟨g', cap', cur, e, ha, h1, h2, h3, h4⟩
  · cases h
  · cases e
    refine .inr ⟨g, cap, _, rfl, ha.set p _, h1, h2, by simp [h3], fun j hj => ?_⟩
    by_cases e : p = j
    · subst e
      have : p < cur.size := by omega
      simp [this]
    · have e' : ¬ j = p := fun h => e h.symm
      simp only [Array.getElem?_setIfInBounds, if_neg e, if_neg e']
      exact h4 j hj

theorem get_nil (id i : Int) (w : World) : Calls Try.prog 25 #[.pointer none, .int .i64 id, .int .i64 i] w fun e w' => e = .returned (.tuple #[.int .i64 0, .int .i64 9]) ∧ Keep (fun _ => False) w w' := by
  go_enter Try.func25, Try.ntmps25
  go_wp2_with fail
  refine (place_nil _ _ _).mono ?_
  rintro e w1 ⟨rfl, q1⟩
  have Q1 := Lib.hid q1
  clear q1
  go_wp2
  go_ret2
  exact ⟨rfl, Q1.out⟩

theorem get_any (b : Nat) (mp : Option Nat) (s : AS) (F : List Nat) (id i : Int) (w : World) (h : Ar w b mp s F) (h1 : -9223372036854775808 ≤ id) (h2 : id ≤ 9223372036854775807) :
    Calls Try.prog 25 #[ptr b, .int .i64 id, .int .i64 i] w fun e w' => e = .returned (.tuple #[.int .i64 (getV s id i).1, .int .i64 (getV s id i).2]) ∧ Keep (fun _ => False) w w' := by
  have hf := place_any b mp s F id i w h h1 h2
  unfold getV
  by_cases e : (placeV s id i).2 = 0
  · obtain ⟨r, hr1, -, p, hp, hp1, hp2⟩ := placeV_ok e
    simp only [e, hp] at hf
    simp only [if_pos e, hp, Int.toNat_natCast]
    have hA := Lib.hid h
    clear e hp h
    go_enter Try.func25, Try.ntmps25
    go_wp2_with fail
    refine hf.mono ?_
    rintro e w1 ⟨rfl, q1⟩
    obtain ⟨-, t, cv, cn, rb, hB, -⟩ := hA.out.none q1
    have hpn : p < cn := by have := hB.cn3 r hr1; omega
    obtain ⟨g, cap, rfl, hc, -, hcap, hmax⟩ := Row.at hB.row hpn
    have k1 : w1.cell? ⟨b, 1, none⟩ = some (.slice (some ⟨g, 0, none⟩) cn cap) := hB.at_.cell rfl
    have Q1 := Lib.hid q1
    clear hB hA q1 hf
    go_wp2
    go_ret2
    exact ⟨rfl, Q1.out⟩
  · simp only [if_neg e]
    have e1 : ((placeV s id i).2 == 0) = false := by simpa using e
    clear e h
    generalize (placeV s id i).2 = y at *
    generalize (placeV s id i).1 = x at *
    go_enter Try.func25, Try.ntmps25
    go_wp2_with fail
    refine hf.mono ?_
    rintro e w1 ⟨rfl, q1⟩
    have Q1 := Lib.hid q1
    clear q1 hf
    go_wp2
    go_ret2
    exact ⟨rfl, Q1.out⟩

theorem set_nil (id i v : Int) (w : World) : Calls Try.prog 24 #[.pointer none, .int .i64 id, .int .i64 i, .int .i64 v] w fun e w' => e = .returned (.int .i64 9) ∧ Keep (fun _ => False) w w' := by
  go_enter Try.func24, Try.ntmps24
  go_wp2_with fail
  refine (place_nil _ _ _).mono ?_
  rintro e w1 ⟨rfl, q1⟩
  have Q1 := Lib.hid q1
  clear q1
  go_wp2
  go_ret
  exact ⟨rfl, Q1.out⟩

theorem AS.set_ok {s : AS} (h : s.Ok) (id i v : Int) : (s.set id i v).Ok := by
  unfold AS.set
  split
  · rename_i e
    obtain ⟨r, hr1, -, p, hp, hp1, hp2⟩ := placeV_ok e
    refine ⟨h.sz, h.la, h.ids, h.idr, h.reg, h.apart, fun q hq => ?_⟩
    simp only [hp, Int.toNat_natCast]
    have hq' : s.fr q = true := hq
    by_cases e : q = p
    · subst e
      simp only [AS.fr, Bool.and_eq_true, List.all_eq_true] at hq'
      have := hq'.2 r hr1
      simp [Reg.has, hp1, hp2] at this
    · rw [if_neg e]
      exact h.zero q hq'
  · exact h

theorem set_any (b : Nat) (mp : Option Nat) (s : AS) (F : List Nat) (id i v : Int) (w : World) (h : Ar w b mp s F) (h1 : -9223372036854775808 ≤ id) (h2 : id ≤ 9223372036854775807) :
    Calls Try.prog 24 #[ptr b, .int .i64 id, .int .i64 i, .int .i64 v] w fun e w' => e = .returned (.int .i64 (placeV s id i).2) ∧ Ar w' b mp (s.set id i v) F ∧ Keep (· ∈ F) w w' := by
  have hf := place_any b mp s F id i w h h1 h2
  have hok := AS.set_ok h.1 id i v
  unfold AS.set at hok ⊢
  by_cases e : (placeV s id i).2 = 0
  · obtain ⟨r, hr1, -, p, hp, hp1, hp2⟩ := placeV_ok e
    simp only [e, hp] at hf
    simp only [if_pos e, hp, Int.toNat_natCast] at hok ⊢
    rw [e]
    have hA := Lib.hid h
    have HOK := Lib.hid hok
    clear e hp h hok
    go_enter Try.func24, Try.ntmps24
    go_wp2_with fail
    refine hf.mono ?_
    rintro e w1 ⟨rfl, q1⟩
    obtain ⟨-, t, cv, cn, rb, hB, hF⟩ := hA.out.none q1
    have hpn : p < cn := by have := hB.cn3 r hr1; omega
    obtain ⟨g, cap, rfl, hc, hfz, hcap, hmax⟩ := Row.at hB.row hpn
    have k1 : w1.cell? ⟨b, 1, none⟩ = some (.slice (some ⟨g, 0, none⟩) cn cap) := hB.at_.cell rfl
    have hN : Ar (w1.setCell ⟨g, p, none⟩ (.int .i64 v)) b mp { s with C := fun q => if q = p then v else s.C q } F := by
      refine ⟨HOK.out, t, .slice (some ⟨g, 0, none⟩) cn cap, cn, rb, ?_, hF⟩
      obtain ⟨a1, a2, a3, a4, a5, a6, a7, a8, a9, a10, a11⟩ := hB
      have hd := a11
      simp only [Value.ownBlock, Option.toList_some, List.nodup_cons, List.mem_cons, List.mem_append, List.not_mem_nil, or_false, not_or, List.nodup_append] at hd
      obtain ⟨⟨d1, d2, d3⟩, ⟨d4, d5⟩, d6, -, d7⟩ := hd
      have q2 : Keep (· = g) w1 (w1.setCell ⟨g, p, none⟩ (.int .i64 v)) := (Keep.refl (· = g) w1).setCell (fun _ => rfl) _
      exact ⟨a1.keep q2 d3, Tr.keep q2 a2 d3 (fun k hk e => d7 k hk g rfl e), a3, a4, a5, Row.put a6 p v, a7, fun q hq => by simp only; rw [if_neg (by omega)]; exact a8 q hq, a9, a10.keep q2 d5, a11⟩
    have hK : Keep (· ∈ F) w (w1.setCell ⟨g, p, none⟩ (.int .i64 v)) := (q1.mono fun _ h => h.elim).setCell (fun _ => by rw [hF]; simp [Value.ownBlock]) _
    have HN := Lib.hid (And.intro hN hK)
    clear hB hA q1 hf hN hK hF
    go_wp2
    go_ret
    exact ⟨rfl, HN.out⟩
  · simp only [if_neg e] at hok ⊢
    have e1 : ((placeV s id i).2 == 0) = false := by simpa using e
    have hA := Lib.hid h
    clear e h hok
    generalize (placeV s id i).2 = y at *
    generalize (placeV s id i).1 = x at *
    go_enter Try.func24, Try.ntmps24
    go_wp2_with fail
    refine hf.mono ?_
    rintro e w1 ⟨rfl, q1⟩
    have Q1 := Lib.hid q1
    clear q1 hf
    go_wp2
    go_ret
    exact ⟨rfl, hA.out.none Q1.out, Q1.out.mono fun _ h => h.elim⟩

end Go.Proofs.Ytklknkeanmjhnaa.Arena
