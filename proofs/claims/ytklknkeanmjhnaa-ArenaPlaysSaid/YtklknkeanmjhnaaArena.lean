/- An arena as a plain model, what it means that the world holds it, and what its calls that change nothing answer. -/
import Derived.Test.YtklknkeanmjhnaaMarkWalk
import Derived.Test.YtklknkeanmjhnaaFirst
import Derived.Test.YtklknkeanmjhnaaRegs
import Derived.Test.YtklknkeanmjhnaaRow
namespace Go.Proofs.Ytklknkeanmjhnaa.Arena
open Go.RowKit Go.Proofs.Ytklknkeanmjhnaa.Base Go.Proofs.Ytklknkeanmjhnaa.Stretch Go.Proofs.Ytklknkeanmjhnaa.Regs Go.Proofs.Ytklknkeanmjhnaa.Row

/-- An arena: how many places, its regions, the greatest number there ever was, what each place holds. -/
structure AS where
  size : Nat
  L : List Reg
  last : Nat
  C : Nat → Int

/-- Does a region have a place? -/
def Reg.has (r : Reg) (p : Nat) : Bool := decide (r.base ≤ p) && decide (p < r.base + r.n)

/-- Is a place no region's? -/
def AS.fr (s : AS) (p : Nat) : Bool := decide (p < s.size) && s.L.all fun r => !Reg.has r p

def AS.used (s : AS) : Nat := (s.L.map (·.n)).sum

structure AS.Ok (s : AS) : Prop where
  sz : s.size ≤ 1048576
  la : s.last ≤ 4611686018427387904
  ids : s.L.Pairwise fun a b => a.id < b.id
  idr : ∀ r ∈ s.L, 1 ≤ r.id ∧ r.id ≤ s.last
  reg : ∀ r ∈ s.L, 1 ≤ r.n ∧ r.base + r.n ≤ s.size
  apart : s.L.Pairwise fun a b => a.base + a.n ≤ b.base ∨ b.base + b.n ≤ a.base
  zero : ∀ p, s.fr p = true → s.C p = 0

/-- How many of the first n places are had by a region of L. -/
def cnt (L : List Reg) (n : Nat) : Nat := (List.range n).countP fun p => L.any fun r => Reg.has r p

theorem count_run (b m : Nat) : ∀ n, b + m ≤ n → (List.range n).countP (fun p => decide (b ≤ p) && decide (p < b + m)) = m := by
  intro n
  have key : ∀ n, (List.range n).countP (fun p => decide (b ≤ p) && decide (p < b + m)) = min (n - b) m := by
    intro n
    induction n with
    | zero => simp
    | succ n ih =>
      rw [List.range_succ, List.countP_append, ih, List.countP_singleton]
      by_cases h1 : b ≤ n
      · by_cases h2 : n < b + m
        · simp [h1, h2]
          omega
        · simp [h2]
          omega
      · simp [h1]
        omega
  intro h
  rw [key]
  omega

theorem used_cnt : ∀ (L : List Reg) (n : Nat), (∀ r ∈ L, r.base + r.n ≤ n) → L.Pairwise (fun a b => a.base + a.n ≤ b.base ∨ b.base + b.n ≤ a.base) → (L.map (·.n)).sum = cnt L n
  | [], n, _, _ => by simp [cnt]
  | r :: L, n, h, hp => by
    rw [List.pairwise_cons] at hp
    have ih := used_cnt L n (fun x hx => h x (by simp [hx])) hp.2
    have h1 := count_run r.base r.n n (h r (by simp))
    simp only [List.map_cons, List.sum_cons, ih, cnt, List.any_cons]
    rw [show (fun p => Reg.has r p || L.any fun r => Reg.has r p) = fun p => (Reg.has r p || L.any fun r => Reg.has r p) from rfl]
    have h2 : ∀ (l : List Nat) (f g : Nat → Bool), (∀ p ∈ l, f p = true → g p = false) → l.countP (fun p => f p || g p) = l.countP f + l.countP g := by
      intro l f g
      induction l with
      | nil => intro _; rfl
      | cons p l ih =>
        intro hd
        have h3 := ih fun q hq => hd q (by simp [hq])
        have h4 := hd p (by simp)
        simp only [List.countP_cons, h3]
        cases hf : f p <;> cases hg : g p <;> simp_all <;> omega
    rw [h2 _ (Reg.has r) (fun p => L.any fun r => Reg.has r p)]
    · rw [show (List.range n).countP (Reg.has r) = r.n from h1]
    · intro p _ hr
      rw [List.any_eq_false]
      intro x hx
      have := hp.1 x hx
      simp only [Reg.has, Bool.and_eq_true, decide_eq_true_eq] at hr ⊢
      omega

theorem AS.Ok.used_le {s : AS} (h : s.Ok) : s.used ≤ s.size := by
  rw [AS.used, used_cnt s.L s.size (fun r hr => (h.reg r hr).2) h.apart, cnt]
  have := List.countP_le_length (p := fun p => s.L.any fun r => Reg.has r p) (l := List.range s.size)
  simpa using this

theorem AS.Ok.len_le {s : AS} (h : s.Ok) : s.L.length ≤ s.size := by
  have h1 := h.used_le
  have h2 : ∀ L : List Reg, (∀ r ∈ L, 1 ≤ r.n) → L.length ≤ (L.map (·.n)).sum := by
    intro L
    induction L with
    | nil => intro _; simp
    | cons r L ih =>
      intro hr
      have h3 := ih fun x hx => hr x (by simp [hx])
      have h4 := hr r (by simp)
      simp
      omega
  have := h2 s.L fun r hr => (h.reg r hr).1
  exact Nat.le_trans this h1

/-- The world holds the arena, in these parts: the tree, the slice of the cells, how long it is, the map's block. -/
structure ArB (w : World) (b : Nat) (mp : Option Nat) (s : AS) (t : TR) (cv : Value) (cn rb : Nat) : Prop where
  at_ : At w b 83 #[kid mp, cv, .int .i64 t.size, .int .i64 t.fr, .int .i64 t.bk, .int .i64 t.mo, kid t.kidL, kid t.kidR, .int .i64 (s.size - s.used : Int), .int .i64 s.last, .map (some rb)]
  tr : Tr w b 2 t
  ok : t.Ok
  sz : t.size = s.size
  fr : ∀ p, t.free p = s.fr p
  row : Row w cv cn s.C
  cn1 : cn ≤ s.size
  cn2 : ∀ p, cn ≤ p → s.C p = 0
  cn3 : ∀ r ∈ s.L, r.base + r.n ≤ cn
  rm : RM w rb s.L
  dup : (b :: rb :: (t.fp ++ cv.ownBlock.toList)).Nodup

/-- The world holds the arena s at block b; its blocks are F. -/
def Ar (w : World) (b : Nat) (mp : Option Nat) (s : AS) (F : List Nat) : Prop := s.Ok ∧ ∃ t cv cn rb, ArB w b mp s t cv cn rb ∧ F = b :: rb :: (t.fp ++ cv.ownBlock.toList)

theorem ArB.keep {S : Nat → Prop} {w w' : World} {b : Nat} {mp : Option Nat} {s : AS} {t : TR} {cv : Value} {cn rb : Nat} (h : ArB w b mp s t cv cn rb) (q : Keep S w w') (hn : ∀ k ∈ b :: rb :: (t.fp ++ cv.ownBlock.toList), ¬ S k) : ArB w' b mp s t cv cn rb := by
  obtain ⟨h1, h2, h3, h4, h5, h6, h7, h8, h9, h10, h11⟩ := h
  refine ⟨h1.keep q (hn b (by simp)), Tr.keep q h2 (hn b (by simp)) (fun k hk => hn k (by simp [hk])), h3, h4, h5, h6.keep q (fun g hg => hn g (by simp [hg])), h7, h8, h9, h10.keep q (hn rb (by simp)), h11⟩

theorem Ar.keep {S : Nat → Prop} {w w' : World} {b : Nat} {mp : Option Nat} {s : AS} {F : List Nat} (h : Ar w b mp s F) (q : Keep S w w') (hn : ∀ k ∈ F, ¬ S k) : Ar w' b mp s F := by
  obtain ⟨h0, t, cv, cn, rb, hB, rfl⟩ := h
  exact ⟨h0, t, cv, cn, rb, hB.keep q hn, rfl⟩

theorem Ar.lt {w : World} {b : Nat} {mp : Option Nat} {s : AS} {F : List Nat} (h : Ar w b mp s F) : ∀ k ∈ F, k < w.heap.size := by
  obtain ⟨_, t, cv, cn, rb, hB, rfl⟩ := h
  intro k hk
  simp only [List.mem_cons, List.mem_append, Option.mem_toList] at hk
  rcases hk with rfl | rfl | hk | hk
  · exact hB.at_.lt
  · exact hB.rm.lt
  · exact hB.tr.lt k hk
  · exact hB.row.lt hk

theorem Ar.none {w w' : World} {b : Nat} {mp : Option Nat} {s : AS} {F : List Nat} (h : Ar w b mp s F) (q : Keep (fun _ => False) w w') : Ar w' b mp s F := h.keep q fun _ _ => id

/-- The pointer to block b's head. -/
abbrev ptr (b : Nat) : Value := .pointer (some ⟨b, 0, none⟩)

theorem find_nil (id : Int) (w : World) : Calls Try.prog 52 #[.pointer none, .int .i64 id] w fun e w' => e = .returned (.tuple #[regVal 0 0, .int .i64 9]) ∧ Keep (fun _ => False) w w' := by
  go_enter Try.func52, Try.ntmps52
  go_wp2
  exact bodyPost_ret (v := .tuple #[regVal 0 0, .int .i64 9]) (by simp [results, Try.results52, go_sem, regVal]) rfl ⟨rfl, (Keep.refl _ _).alloc _⟩

set_option maxRecDepth 100000 in
theorem find_hit (b : Nat) (mp : Option Nat) (s : AS) (F : List Nat) (id : Int) (r : Reg) (w : World) (h : Ar w b mp s F) (h1 : -9223372036854775808 ≤ id) (h2 : id ≤ 9223372036854775807) (hr : Regs.look s.L id = some r) :
    Calls Try.prog 52 #[ptr b, .int .i64 id] w fun e w' => e = .returned (.tuple #[regVal r.base r.n, .int .i64 0]) ∧ Keep (fun _ => False) w w' := by
  obtain ⟨h0, t, cv, cn, rb, hB, rfl⟩ := h
  have k10 : w.cell? ⟨b, 10, none⟩ = some (.map (some rb)) := hB.at_.cell rfl
  have hm := (hB.rm.keep (S := fun _ => False) ((Keep.refl _ w).alloc (.cells #[.int .i64 0, .int .i64 0] 89)) (fun h => h)).look_ok h1 h2
  simp only [hr, regVal, Option.isSome_some] at hm
  have hbl := hB.at_.lt
  clear hB h0 hr
  go_enter Try.func52, Try.ntmps52
  go_wp2
  exact bodyPost_ret (v := .tuple #[regVal r.base r.n, .int .i64 0]) (by simp [results, Try.results52, go_sem, regVal]) rfl ⟨rfl, ((Keep.refl _ _).alloc _).alloc _⟩

set_option maxRecDepth 100000 in
theorem find_miss (b : Nat) (mp : Option Nat) (s : AS) (F : List Nat) (id : Int) (w : World) (h : Ar w b mp s F) (h1 : -9223372036854775808 ≤ id) (h2 : id ≤ 9223372036854775807) (hr : Regs.look s.L id = none) :
    Calls Try.prog 52 #[ptr b, .int .i64 id] w fun e w' => e = .returned (.tuple #[regVal 0 0, .int .i64 7]) ∧ Keep (fun _ => False) w w' := by
  obtain ⟨h0, t, cv, cn, rb, hB, rfl⟩ := h
  have k10 : w.cell? ⟨b, 10, none⟩ = some (.map (some rb)) := hB.at_.cell rfl
  have hm := (hB.rm.keep (S := fun _ => False) ((Keep.refl _ w).alloc (.cells #[.int .i64 0, .int .i64 0] 89)) (fun h => h)).look_ok h1 h2
  simp only [hr, regVal, Option.isSome_none] at hm
  have hbl := hB.at_.lt
  clear hB h0 hr
  go_enter Try.func52, Try.ntmps52
  go_wp2
  exact bodyPost_ret (v := .tuple #[regVal 0 0, .int .i64 7]) (by simp [results, Try.results52, go_sem, regVal]) rfl ⟨rfl, ((Keep.refl _ _).alloc _).alloc _⟩

/-- What find answers: the region's base and length, and an error. -/
def findV (s : AS) (id : Int) : Int × Int × Int := match Regs.look s.L id with | some r => (r.base, r.n, 0) | none => (0, 0, 7)

theorem find_any (b : Nat) (mp : Option Nat) (s : AS) (F : List Nat) (id : Int) (w : World) (h : Ar w b mp s F) (h1 : -9223372036854775808 ≤ id) (h2 : id ≤ 9223372036854775807) :
    Calls Try.prog 52 #[ptr b, .int .i64 id] w fun e w' => e = .returned (.tuple #[regVal (findV s id).1 (findV s id).2.1, .int .i64 (findV s id).2.2]) ∧ Keep (fun _ => False) w w' := by
  unfold findV
  cases e : Regs.look s.L id with
  | none => exact find_miss b mp s F id w h h1 h2 e
  | some r => exact find_hit b mp s F id r w h h1 h2 e

theorem len_nil (id : Int) (w : World) : Calls Try.prog 30 #[.pointer none, .int .i64 id] w fun e w' => e = .returned (.int .i64 (-1)) ∧ Keep (fun _ => False) w w' := by
  go_enter Try.func30, Try.ntmps30
  go_wp2_with fail
  refine (find_nil _ _).mono ?_
  rintro e w1 ⟨rfl, q1⟩
  have Q1 := Lib.hid q1
  clear q1
  simp only [regVal]
  go_wp2
  go_ret
  exact ⟨rfl, (Q1.out.alloc _)⟩

theorem len_any (b : Nat) (mp : Option Nat) (s : AS) (F : List Nat) (id : Int) (w : World) (h : Ar w b mp s F) (h1 : -9223372036854775808 ≤ id) (h2 : id ≤ 9223372036854775807) :
    Calls Try.prog 30 #[ptr b, .int .i64 id] w fun e w' => e = .returned (.int .i64 (match Regs.look s.L id with | some r => (r.n : Int) | none => -1)) ∧ Keep (fun _ => False) w w' := by
  have hf := find_any b mp s F id w h h1 h2
  unfold findV at hf
  cases er : Regs.look s.L id with
  | none =>
    simp only [er, regVal] at hf
    clear er
    go_enter Try.func30, Try.ntmps30
    go_wp2_with fail
    refine hf.mono ?_
    rintro e w1 ⟨rfl, q1⟩
    have Q1 := Lib.hid q1
    clear q1 hf
    go_wp2
    go_ret
    exact ⟨rfl, (Q1.out.alloc _)⟩
  | some r =>
    simp only [er, regVal] at hf
    clear er
    go_enter Try.func30, Try.ntmps30
    go_wp2_with fail
    refine hf.mono ?_
    rintro e w1 ⟨rfl, q1⟩
    have Q1 := Lib.hid q1
    clear q1 hf
    go_wp2
    go_ret
    exact ⟨rfl, (Q1.out.alloc _)⟩

theorem base_nil (id : Int) (w : World) : Calls Try.prog 29 #[.pointer none, .int .i64 id] w fun e w' => e = .returned (.int .i64 (-1)) ∧ Keep (fun _ => False) w w' := by
  go_enter Try.func29, Try.ntmps29
  go_wp2_with fail
  refine (find_nil _ _).mono ?_
  rintro e w1 ⟨rfl, q1⟩
  have Q1 := Lib.hid q1
  clear q1
  simp only [regVal]
  go_wp2
  go_ret
  exact ⟨rfl, (Q1.out.alloc _)⟩

theorem base_any (b : Nat) (mp : Option Nat) (s : AS) (F : List Nat) (id : Int) (w : World) (h : Ar w b mp s F) (h1 : -9223372036854775808 ≤ id) (h2 : id ≤ 9223372036854775807) :
    Calls Try.prog 29 #[ptr b, .int .i64 id] w fun e w' => e = .returned (.int .i64 (match Regs.look s.L id with | some r => (r.base : Int) | none => -1)) ∧ Keep (fun _ => False) w w' := by
  have hf := find_any b mp s F id w h h1 h2
  unfold findV at hf
  cases er : Regs.look s.L id with
  | none =>
    simp only [er, regVal] at hf
    clear er
    go_enter Try.func29, Try.ntmps29
    go_wp2_with fail
    refine hf.mono ?_
    rintro e w1 ⟨rfl, q1⟩
    have Q1 := Lib.hid q1
    clear q1 hf
    go_wp2
    go_ret
    exact ⟨rfl, (Q1.out.alloc _)⟩
  | some r =>
    simp only [er, regVal] at hf
    clear er
    go_enter Try.func29, Try.ntmps29
    go_wp2_with fail
    refine hf.mono ?_
    rintro e w1 ⟨rfl, q1⟩
    have Q1 := Lib.hid q1
    clear q1 hf
    go_wp2
    go_ret
    exact ⟨rfl, (Q1.out.alloc _)⟩

theorem left_nil (w : World) : Calls Try.prog 27 #[.pointer none] w fun e w' => e = .returned (.int .i64 0) ∧ w = w' := by
  go_enter Try.func27, Try.ntmps27
  go_wp2
  go_ret
  exact ⟨rfl, rfl⟩

theorem left_any (b : Nat) (mp : Option Nat) (s : AS) (F : List Nat) (w : World) (h : Ar w b mp s F) : Calls Try.prog 27 #[ptr b] w fun e w' => e = .returned (.int .i64 (s.size - s.used : Int)) ∧ w = w' := by
  obtain ⟨h0, t, cv, cn, rb, hB, rfl⟩ := h
  have k8 : w.cell? ⟨b, 8, none⟩ = some (.int .i64 (s.size - s.used : Int)) := hB.at_.cell rfl
  go_enter Try.func27, Try.ntmps27
  go_wp2
  go_ret
  exact ⟨rfl, rfl⟩

theorem place_nil (id i : Int) (w : World) : Calls Try.prog 55 #[.pointer none, .int .i64 id, .int .i64 i] w fun e w' => e = .returned (.tuple #[.int .i64 0, .int .i64 9]) ∧ Keep (fun _ => False) w w' := by
  go_enter Try.func55, Try.ntmps55
  go_wp2_with fail
  refine (find_nil _ _).mono ?_
  rintro e w1 ⟨rfl, q1⟩
  have Q1 := Lib.hid q1
  clear q1
  simp only [regVal]
  go_wp2
  go_ret2
  exact ⟨rfl, (Q1.out.alloc _)⟩

/-- Where a region's cell lies, and an error. -/
def placeV (s : AS) (id i : Int) : Int × Int := match Regs.look s.L id with | some r => if 0 ≤ i ∧ i < r.n then (r.base + i, 0) else (0, 2) | none => (0, 7)

theorem look_mem {L : List Reg} {id : Int} {r : Reg} (h : Regs.look L id = some r) : r ∈ L ∧ (r.id : Int) = id := by
  refine ⟨List.mem_of_find?_eq_some h, ?_⟩
  simpa using List.find?_some h

theorem place_any (b : Nat) (mp : Option Nat) (s : AS) (F : List Nat) (id i : Int) (w : World) (h : Ar w b mp s F) (h1 : -9223372036854775808 ≤ id) (h2 : id ≤ 9223372036854775807) :
    Calls Try.prog 55 #[ptr b, .int .i64 id, .int .i64 i] w fun e w' => e = .returned (.tuple #[.int .i64 (placeV s id i).1, .int .i64 (placeV s id i).2]) ∧ Keep (fun _ => False) w w' := by
  have hf := find_any b mp s F id w h h1 h2
  unfold findV at hf
  unfold placeV
  cases er : Regs.look s.L id with
  | none =>
    simp only [er, regVal] at hf
    clear er
    go_enter Try.func55, Try.ntmps55
    go_wp2_with fail
    refine hf.mono ?_
    rintro e w1 ⟨rfl, q1⟩
    have Q1 := Lib.hid q1
    clear q1 hf
    go_wp2
    go_ret2
    exact ⟨rfl, (Q1.out.alloc _)⟩
  | some r =>
    simp only [er, regVal] at hf
    have hr := h.1.reg r (look_mem er).1
    have hz := h.1.sz
    clear er h
    by_cases i0 : i < 0
    · simp only
      rw [if_neg (by omega)]
      go_enter Try.func55, Try.ntmps55
      go_wp2_with fail
      refine hf.mono ?_
      rintro e w1 ⟨rfl, q1⟩
      have Q1 := Lib.hid q1
      clear q1 hf
      go_wp2
      go_ret2
      exact ⟨rfl, (Q1.out.alloc _)⟩
    · by_cases i1 : i < r.n
      · simp only
        rw [if_pos (by omega)]
        go_enter Try.func55, Try.ntmps55
        go_wp2_with fail
        refine hf.mono ?_
        rintro e w1 ⟨rfl, q1⟩
        have Q1 := Lib.hid q1
        clear q1 hf
        have i2 : ¬ ((r.n : Int) ≤ i) := by omega
        go_wp2
        go_ret2
        exact ⟨rfl, (Q1.out.alloc _)⟩
      · simp only
        rw [if_neg (by omega)]
        go_enter Try.func55, Try.ntmps55
        go_wp2_with fail
        refine hf.mono ?_
        rintro e w1 ⟨rfl, q1⟩
        have Q1 := Lib.hid q1
        clear q1 hf
        go_wp2
        go_ret2
        exact ⟨rfl, (Q1.out.alloc _)⟩

end Go.Proofs.Ytklknkeanmjhnaa.Arena
