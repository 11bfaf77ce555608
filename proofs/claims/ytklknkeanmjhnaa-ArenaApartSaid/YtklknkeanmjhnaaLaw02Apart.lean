/- ArenaApart, walked: regions don't overlap, and lie within the arena; what is left, and they, are all of it. -/
import Derived.Test.YtklknkeanmjhnaaApart
import Derived.Test.YtklknkeanmjhnaaSeen
import Derived.Test.YtklknkeanmjhnaaLists
import Derived.Deep.RegionHeld3
import Derived.Deep.DeepCutAuto
import Derived.Deep.CutBlock
import Derived.Deep.LoopGhost
namespace Go.Proofs.Ytklknkeanmjhnaa.ArenaApart
open Go.RowKit Go.Proofs.Ytklknkeanmjhnaa.Base Go.Proofs.Ytklknkeanmjhnaa.Arena Go.Proofs.Ytklknkeanmjhnaa.Stretch Go.Proofs.Ytklknkeanmjhnaa.Regs Go.Proofs.Ytklknkeanmjhnaa.Law02 Go.Proofs.Ytklknkeanmjhnaa.Lists

/-- The arena, the list of the numbers that were handed out, and other blocks of the caller's. -/
structure Ap (w0 w : World) (X : List Nat) (b : Nat) (s : AS) (lv : Value) (I : List Int) : Prop where
  o : One w0 w (fun k => lv.ownBlock = some k ∨ k ∈ X) b none s mm
  il : IL w lv I
  lf : ∀ k, lv.ownBlock = some k → w0.heap.size ≤ k ∧ k ∉ X
  xf : ∀ k ∈ X, w0.heap.size ≤ k

theorem Ap.made {w0 w : World} {b : Nat} {s : AS} (h : One w0 w (fun _ => False) b none s mm) : Ap w0 w [] b s (.slice none 0 0) [] :=
  ⟨h.step (Keep.refl (fun _ => False) w) (fun _ h => h) (fun _ h => h.elim) (fun k hk => hk.elim (fun h => (by cases h)) (fun h => (by simp at h))) (fun k hk => hk.elim (fun h => (by cases h)) (fun h => (by simp at h))), IL.nil w, (fun k hk => by cases hk), (fun k hk => by simp at hk)⟩

theorem Ap.quiet {w0 w w' : World} {X : List Nat} {b : Nat} {s : AS} {lv : Value} {I : List Int} (h : Ap w0 w X b s lv I) (q : Keep (fun _ => False) w w') : Ap w0 w' X b s lv I :=
  ⟨h.o.quiet q, h.il.keep q (fun _ _ h => h), h.lf, h.xf⟩

/-- What the arena does. -/
theorem Ap.did {w0 w w' : World} {X : List Nat} {b : Nat} {s s' : AS} {lv : Value} {I : List Int} (h : Ap w0 w X b s lv I) (o : One w0 w' (fun k => lv.ownBlock = some k ∨ k ∈ X) b none s' mm) (q : Keep (fun k => ¬ (lv.ownBlock = some k ∨ k ∈ X)) w w') : Ap w0 w' X b s' lv I :=
  ⟨o, h.il.keep q (fun _ hk hn => hn (.inl hk)), h.lf, h.xf⟩

/-- A new block of the caller's. -/
theorem Ap.more {w0 w : World} {X : List Nat} {b : Nat} {s : AS} {lv : Value} {I : List Int} (h : Ap w0 w X b s lv I) (ob : Obj) : Ap w0 (w.alloc ob) (w.heap.size :: X) b s lv I := by
  have hk := h.o.keep.size
  have hl : ∀ k, lv.ownBlock = some k → k < w.heap.size := fun k e => h.il.lt e
  refine ⟨h.o.step ((Keep.refl (fun _ => False) w).alloc ob) (fun _ h => h.elim) (fun k hb => hb.elim (fun e => (h.lf k e).1) (fun e => h.xf k e)) (fun k hb => ?_) (fun k hb => ?_), h.il.keep ((Keep.refl (fun _ => False) w).alloc ob) (fun _ _ h => h), fun k e => ⟨(h.lf k e).1, ?_⟩, fun k hx => ?_⟩
  · rcases hb with e | e
    · exact .inl (.inl e)
    · rcases List.mem_cons.1 e with e | e
      · exact .inr (by omega)
      · exact .inl (.inr e)
  · have hz : (w.alloc ob).heap.size = w.heap.size + 1 := by simp
    rw [hz]
    rcases hb with e | e
    · have := hl k e; omega
    · rcases List.mem_cons.1 e with e | e
      · omega
      · have := h.o.lt (k := k) (.inr e); omega
  · intro hx
    rcases List.mem_cons.1 hx with e' | e'
    · have := hl k e; omega
    · exact (h.lf k e).2 e'
  · rcases List.mem_cons.1 hx with e | e
    · omega
    · exact h.xf k e

/-- Fewer of them. -/
theorem Ap.less {w0 w : World} {X X' : List Nat} {b : Nat} {s : AS} {lv : Value} {I : List Int} (h : Ap w0 w X b s lv I) (hx : ∀ k ∈ X', k ∈ X) : Ap w0 w X' b s lv I :=
  ⟨h.o.step (Keep.refl (fun _ => False) w) (fun _ h => h.elim) (fun k hb => hb.elim (fun e => (h.lf k e).1) (fun e => h.xf k e)) (fun k hb => .inl (hb.imp id (hx k))) (fun k hb => h.o.lt (hb.imp id (hx k))), h.il, fun k e => ⟨(h.lf k e).1, fun hc => (h.lf k e).2 (hx k hc)⟩, fun k hk => h.xf k (hx k hk)⟩

/-- The caller turns one of these blocks. -/
theorem Ap.turn {w0 w w' : World} {X : List Nat} {b m : Nat} {s : AS} {lv : Value} {I : List Int} (h : Ap w0 w X b s lv I) (hm : m ∈ X) (q : Keep (· = m) w w') : Ap w0 w' X b s lv I :=
  ⟨h.o.step q (fun k e => .inr (by subst e; exact hm)) (fun k hb => hb.elim (fun e => (h.lf k e).1) (fun e => h.xf k e)) (fun k hb => .inl hb) (fun k hb => Nat.lt_of_lt_of_le (h.o.lt hb) q.size), h.il.keep q (fun k e e2 => (h.lf k e).2 (by subst e2; exact hm)), h.lf, h.xf⟩

/-- A number more in the list. -/
theorem Ap.push {w0 w w' : World} {X : List Nat} {b : Nat} {s : AS} {lv lv' : Value} {I I' : List Int} (h : Ap w0 w X b s lv I) (q : Keep (fun k => lv.ownBlock = some k) w w') (i : IL w' lv' I') (f : ∀ k, lv'.ownBlock = some k → lv.ownBlock = some k ∨ w.heap.size ≤ k) : Ap w0 w' X b s lv' I' := by
  have hk := h.o.keep.size
  refine ⟨h.o.step q (fun k e => .inl e) (fun k hb => hb.elim (fun e => (h.lf k e).1) (fun e => h.xf k e)) (fun k hb => ?_) (fun k hb => ?_), i, fun k e => ?_, h.xf⟩
  · rcases hb with e | e
    · exact (f k e).imp .inl id
    · exact .inl (.inr e)
  · rcases hb with e | e
    · exact i.lt e
    · exact Nat.lt_of_lt_of_le (h.o.lt (k := k) (.inr e)) q.size
  · rcases f k e with e' | e'
    · exact h.lf k e'
    · exact ⟨by omega, fun hx => by have := h.o.lt (k := k) (.inr hx); omega⟩

theorem Ap.form {w0 w : World} {X : List Nat} {b : Nat} {s : AS} {lv : Value} {I : List Int} (h : Ap w0 w X b s lv I) : ∃ a cap, lv = .slice a I.length cap := by
  obtain ⟨a, cap, e, -⟩ := h.il.form
  exact ⟨a, cap, e⟩

/-- .. and in the map m just the places T. -/
structure At2 (w0 w : World) (m b : Nat) (s : AS) (lv : Value) (I : List Int) (T : List Int) : Prop where
  a : Ap w0 w [m] b s lv I
  h : Seen.Has w m T

theorem At2.quiet {w0 w w' : World} {m b : Nat} {s : AS} {lv : Value} {I T : List Int} (h : At2 w0 w m b s lv I T) (q : Keep (fun _ => False) w w') : At2 w0 w' m b s lv I T := ⟨h.a.quiet q, h.h.keep q id⟩

theorem At2.add {w0 w : World} {m b : Nat} {s : AS} {lv : Value} {I T : List Int} (h : At2 w0 w m b s lv I T) {x : Int} (h1 : 0 ≤ x) (h2 : x ≤ 1048576) (hx : x ∉ T) (hl : T.length ≤ 4194304) :
    (Instr.lookup 55 (.map (some m)) (.int .i64 x) false).run Try.prog w = .ok (.bool false) w ∧
    ∃ w', (Instr.mapUpdate 55 (.map (some m)) (.int .i64 x) (.bool true)).run Try.prog w = .ok () w' ∧ At2 w0 w' m b s lv I (T ++ [x]) := by
  obtain ⟨w', hr, h3, q⟩ := h.h.add (x := x) (by omega) (by omega) hx (by unfold maxLen; omega)
  have h4 := h.h.look (x := x) (by omega) (by omega)
  rw [show decide (x ∈ T) = false from by simpa using hx] at h4
  exact ⟨h4, w', hr, h.a.turn (by simp) q, h3⟩

theorem base_is {w0 : World} {B : Nat → Prop} (b : Nat) (s : AS) (id v : Int) (hv : (match Regs.look s.L id with | some r => (r.base : Int) | none => -1) = v) (w : World) (h : One w0 w B b none s mm) (i1 : -9223372036854775808 ≤ id) (i2 : id ≤ 9223372036854775807) :
    Calls Try.prog 29 #[Arena.ptr b, .int .i64 id] w fun x w' => x = .returned (.int .i64 v) ∧ Keep (fun _ => False) w w' := by
  subst hv
  exact (one_base b none s mm id w h i1 i2).mono fun _ _ r => ⟨r.1, r.2.2⟩

theorem len_is {w0 : World} {B : Nat → Prop} (b : Nat) (s : AS) (id v : Int) (hv : (match Regs.look s.L id with | some r => (r.n : Int) | none => -1) = v) (w : World) (h : One w0 w B b none s mm) (i1 : -9223372036854775808 ≤ id) (i2 : id ≤ 9223372036854775807) :
    Calls Try.prog 30 #[Arena.ptr b, .int .i64 id] w fun x w' => x = .returned (.int .i64 v) ∧ Keep (fun _ => False) w w' := by
  subst hv
  exact (one_len b none s mm id w h i1 i2).mono fun _ _ r => ⟨r.1, r.2.2⟩

set_option maxRecDepth 100000 in
set_option maxHeartbeats 2000000 in
theorem walk {H : Type} {enc : TypeId × Value → H} (v0 v1 : Value) {d0 d1 : DataW H} {p0 p1 : List MemPlace} (W : World)
    (k0 : Value.okWide Try.prog W .any 0 3 v0) (k1 : Value.okWide Try.prog W .any 0 22 v1)
    (h0 : DataW.Trod enc Try.prog W 0 (fun _ => true) true 3 v0 d0 p0) (h1 : DataW.Trod enc Try.prog W 0 (fun _ => true) true 22 v1 d1 p1) :
    Calls Try.prog 6 #[v0, v1] W fun e w' => e = .returned (.bool true) ∧ Below W.heap.size W w' := by
  obtain ⟨size, rfl, -, -⟩ := int_arg Try.underlying3 k0 h0
  obtain ⟨la, len, cap, bl, off, rfl, hlen, hla, hrow⟩ := ops_arg k1 h1
  clear k0 k1 h0 h1
  have g1 := fun w => long_any size la len cap w hlen
  by_cases hb1 : (decide (300 < size) || decide (200 < len)) = true
  · rw [hb1] at g1
    have G1 := Lib.hid g1
    clear g1 hb1 hrow hla
    go_enter Try.func6, Try.ntmps6
    go_wp2_with fail
    refine (awake_any _).mono ?_
    rintro e w1 ⟨rfl, q1⟩
    go_wp2_with fail
    refine (G1.out _).mono ?_
    rintro e w2 ⟨rfl, rfl⟩
    go_wp2_with fail
    refine (awake_any _).mono ?_
    rintro e w4 ⟨rfl, q3⟩
    have Q := Lib.hid (q1.trans q3)
    clear q1 q3
    go_wp2
    go_ret
    exact ⟨rfl, Q.out.below (Nat.le_refl _) (fun _ _ h => h)⟩
  · have hl200 : len ≤ 200 := by simp at hb1; omega
    have hs300 : size ≤ 300 := by simp at hb1; omega
    rw [Bool.not_eq_true] at hb1
    rw [hb1] at g1
    have G1 := Lib.hid g1
    have HR := Lib.hid hrow
    have HA := Lib.hid hla
    clear g1 hb1 hrow hla
    go_enter Try.func6, Try.ntmps6
    go_wp2_with fail
    refine (awake_any _).mono ?_
    rintro e w1 ⟨rfl, q1⟩
    go_wp2_with fail
    refine (G1.out _).mono ?_
    rintro e w2 ⟨rfl, rfl⟩
    go_wp2_with fail
    refine (one_new (w0 := W) none size mm _ q1 trivial (fun k hk => by cases hk)).mono ?_
    rintro e w3 ⟨b, rfl, O1, -⟩
    have T0 := Ap.made O1
    have hcl : ((AS.new size).size : Int) = max size 0 := by simp only [AS.new, clipN]; omega
    clear O1 q1
    go_wp2_with fail
    go_loopg [6, 29] len (fun gg lv i wr => ∃ (k : Nat) (s : AS) (I : List Int), k + gg = len ∧ i = .int .i64 k ∧ Ap W wr [] b s lv I ∧ AI s I ∧ s.last ≤ k ∧ (s.size : Int) = max size 0 ∧ I.length ≤ k)
    case atStart => exact ⟨0, AS.new size, [], Nat.zero_add _, rfl, T0, AI.new size, Nat.le_refl _, hcl, Nat.le_refl _⟩
    case round =>
      obtain ⟨k, s, I, hk, rfl, hT, hI, hl1, hsz, hil⟩ := hrel
      obtain ⟨la0, cap0, rfl⟩ := hT.form
      by_cases hlt : k < len
      · obtain ⟨hla, hbl⟩ := HA.out (by omega)
        subst hla
        have hc : ∀ j, j < 4 → ∃ q : Int, wr.cell? ⟨bl, off + (k * 4 + j), none⟩ = some (.int .i64 q) ∧ -9223372036854775808 ≤ q ∧ q ≤ 9223372036854775807 := fun j hj => by
          obtain ⟨q, h1, h2⟩ := HR.out k j hlt hj
          exact ⟨q, (hT.o.keep.cell hbl (fun h => h)).trans h1, h2⟩
        obtain ⟨x0, c0, -, -⟩ := hc 0 (by omega)
        obtain ⟨x1, c1, y1, z1⟩ := hc 1 (by omega)
        obtain ⟨x2, c2, y2, z2⟩ := hc 2 (by omega)
        obtain ⟨x3, c3, y3, z3⟩ := hc 3 (by omega)
        rw [Nat.add_zero] at c0
        simp only [← Nat.add_assoc] at c1 c2 c3
        have hlt' : (k : Int) < len := by omega
        have T1 := hT.more (.cells #[.int .i64 x0, .int .i64 x1, .int .i64 x2, .int .i64 x3] 37)
        have a1 := At.new wr #[.int .i64 x0, .int .i64 x1, .int .i64 x2, .int .i64 x3] 37
        have T1 := Lib.hid (And.intro T1 a1)
        have HI := Lib.hid (And.intro hI hsz)
        clear hc hT a1 hI T0
        go_upto_block 2 with fail
        go_cut [6] (fun lv wx => ∃ (s' : AS) (I' : List Int), Ap W wx [wr.heap.size] b s' lv I' ∧ AI s' I' ∧ s'.last ≤ k + 1 ∧ (s'.size : Int) = max size 0 ∧ I'.length ≤ k + 1)
        case first =>
          obtain ⟨U1, a1⟩ := T1.out
          have b0 : (wr.alloc (.cells #[.int .i64 x0, .int .i64 x1, .int .i64 x2, .int .i64 x3] 37)).cell? ⟨wr.heap.size, 0, none⟩ = some (.int .i64 x0) := a1.cell rfl
          have b1 : (wr.alloc (.cells #[.int .i64 x0, .int .i64 x1, .int .i64 x2, .int .i64 x3] 37)).cell? ⟨wr.heap.size, 1, none⟩ = some (.int .i64 x1) := a1.cell rfl
          have b2 : (wr.alloc (.cells #[.int .i64 x0, .int .i64 x1, .int .i64 x2, .int .i64 x3] 37)).cell? ⟨wr.heap.size, 2, none⟩ = some (.int .i64 x2) := a1.cell rfl
          clear U1 a1
          generalize hW1 : wr.alloc (.cells #[.int .i64 x0, .int .i64 x1, .int .i64 x2, .int .i64 x3] 37) = W1 at *
          have hW1 := Lib.hid hW1
          clear c0 c1 c2 c3
          by_cases e1 : x0 = 1
          · subst e1
            go_wp2_with fail
            refine (one_alloc b none s mm x2 _ T1.out.1.o (by omega)).mono ?_
            rintro e w4 ⟨rfl, O2, q2⟩
            have T2 := T1.out.1.did (s' := (allocV s none mm x2).2.1) (by exact O2) q2
            rcases alloc_cases s none mm x2 with ⟨x, e5, e6, -, -⟩ | ⟨e4, e5, e6⟩
            · rw [e6] at T2
              rw [e5]
              have hI2 := HI.out.1.add x x2.toNat
              have hlx : (s.add x x2.toNat).last = s.last + 1 := rfl
              have hsx : (s.add x x2.toNat).size = s.size := rfl
              obtain ⟨v', w', hrun, i3, q3, f3⟩ := T2.il.push ((s.last : Int) + 1) (by omega) 32
              have T3 := T2.push q3 i3 f3
              have HN := Lib.hid (And.intro T3 hI2)
              clear T2 T3 hI2 O2 q2 i3 q3 f3 e5 e6 T1
              go_wp2_with (at_builtin; refine Lib.wpList_append_run _ rfl _ _ _ _ rfl _ _ rfl rfl _ _ hrun ?_)
              go_meet
              case rel => exact ⟨_, _, HN.out.1, HN.out.2, by omega, by rw [hsx]; exact HI.out.2, by simp; omega⟩
            · rw [e6] at T2
              have e5' : ((allocV s none mm x2).1.2 == 0) = false := by simpa using e5
              have HN := Lib.hid T2
              clear T2 O2 q2 e5 e6 T1
              generalize (allocV s none mm x2).1.2 = ee at *
              generalize (allocV s none mm x2).1.1 = ii at *
              go_wp2_with fail
              go_meet
              case rel => exact ⟨_, _, HN.out, HI.out.1, by omega, HI.out.2, by omega⟩
          · have e1' : (x0 == 1) = false := by simpa using e1
            by_cases e2 : x0 = 2
            · subst e2
              go_wp2_with fail
              refine (one_free b none s mm x1 _ T1.out.1.o y1 z1).mono ?_
              rintro e w4 ⟨rfl, O2, q2⟩
              have T2 := T1.out.1.did (s' := (freeV s none mm x1).2.1) (by exact O2) q2
              have hI2 := HI.out.1.free none mm x1
              have hz2 := free_size s none mm x1
              have hl2 := free_last s none mm x1
              have HN := Lib.hid (And.intro T2 (And.intro hI2 (And.intro hz2 hl2)))
              clear T2 hI2 O2 q2 hz2 hl2 T1
              generalize (freeV s none mm x1).1 = ee at *
              go_wp2_with fail
              go_meet
              case rel => exact ⟨_, _, HN.out.1, HN.out.2.1, by have := HN.out.2.2.2; omega, by rw [HN.out.2.2.1]; exact HI.out.2, by omega⟩
            · have e2' : (x0 == 2) = false := by simpa using e2
              by_cases e3 : x0 = 5
              · subst e3
                go_wp2_with fail
                refine (one_wipe b none s mm _ T1.out.1.o).mono ?_
                rintro e w4 ⟨rfl, O2, q2⟩
                have hgm : giveAll none mm s.L = mm := by
                  unfold giveAll
                  generalize s.L = L
                  induction L with
                  | nil => rfl
                  | cons r L ih => exact ih
                rw [hgm] at O2
                have T2 := T1.out.1.did O2 q2
                have HN := Lib.hid (And.intro T2 HI.out.1.wipe)
                clear T2 O2 q2 hgm T1
                go_wp2_with fail
                go_meet
                case rel => exact ⟨_, _, HN.out.1, HN.out.2, by simp [AS.wipe]; omega, HI.out.2, by omega⟩
              · have e3' : (x0 == 5) = false := by simpa using e3
                go_wp2_with fail
                go_meet
                case rel => exact ⟨_, _, T1.out.1, HI.out.1, by omega, HI.out.2, by omega⟩
        case rest =>
          obtain ⟨s', I', T2, hI', hl2, hsz', hil'⟩ := hcut
          clear T1 c0 c1 c2 c3
          have T2 := T2.less (X' := []) (by simp)
          obtain ⟨la2, cap2, rfl⟩ := T2.form
          have hmm := @run_makeMap Try.prog
          have T3 := T2.more (.map #[] 0)
          have S3 := Seen.Has.new wc
          have A3 : At2 W (wc.alloc (.map #[] 0)) wc.heap.size b s' (.slice la2 I'.length cap2) I' (places s' (I'.take 0)) := ⟨T3, by simpa [places] using S3⟩
          clear T2 T3 S3
          go_wp2_with fail
          generalize wc.alloc (.map #[] 0) = w6 at *
          generalize wc.heap.size = mb at *
          clear hmm
          have hok := Lib.hid A3.a.o.ok
          have hIn := Lib.hid hI'
          have hsn := Lib.hid hsz'
          clear hI' hsz'
          go_loopg [63] I'.length (fun gg i wr => ∃ j : Nat, j + gg = I'.length ∧ i = .int .i64 j ∧ At2 W wr mb b s' (.slice la2 I'.length cap2) I' (places s' (I'.take j)))
          case atStart => exact ⟨0, Nat.zero_add _, rfl, A3⟩
          case round =>
            obtain ⟨j, hj, rfl, hA⟩ := hrel
            by_cases hlj : j < I'.length
            · obtain ⟨x, hx⟩ : ∃ x, I'[j]? = some x := ⟨_, List.getElem?_eq_getElem hlj⟩
              obtain ⟨x1, x2⟩ := hIn.out.rng x (List.mem_of_getElem? hx)
              obtain ⟨a', cap', e1, hcell⟩ := hA.a.il.form
              injection e1 with e1 e3 e2
              clear e3
              subst e1
              subst e2
              obtain ⟨u, -, rfl, cu⟩ := hcell j x hx
              have hlj' : (j : Int) < I'.length := by omega
              have hpn := places_next (s := s') hx
              have HA2 := Lib.hid hA
              clear hcell hA A3
              have hb64 : -9223372036854775808 ≤ x ∧ x ≤ 9223372036854775807 := by omega
              have HB := Lib.hid hb64
              clear hb64
              cases hlk : Regs.look s'.L x with
              | none =>
                have hpo : placesOf s' x = [] := by unfold placesOf; rw [hlk]
                rw [hpo, List.append_nil] at hpn
                have HP := Lib.hid (And.intro hpn hlk)
                clear hpn hpo hlk hx
                go_wp2_with fail
                refine (base_is b s' x (-1) (by rw [HP.out.2]) _ HA2.out.a.o HB.out.1 HB.out.2).mono ?_
                rintro e w7 ⟨rfl, q7⟩
                have HA3 := Lib.hid (HA2.out.quiet q7)
                clear HA2 q7 cu
                go_wp2_with fail
                refine (len_is b s' x (-1) (by rw [HP.out.2]) _ HA3.out.a.o HB.out.1 HB.out.2).mono ?_
                rintro e w8 ⟨rfl, q8⟩
                have HA4 := Lib.hid (HA3.out.quiet q8)
                clear HA3 q8
                go_wp2_with fail
                go_loopg [74] 0 (fun gg i wr => i = .int .i64 0 ∧ At2 W wr mb b s' (.slice (some ⟨u, 0, none⟩) I'.length cap2) I' (places s' (I'.take j)))
                case atStart => exact ⟨rfl, HA4.out⟩
                case round =>
                  obtain ⟨rfl, hA5⟩ := hrel
                  have HA5 := Lib.hid hA5
                  clear hA5
                  go_wp2_with fail
                  go_roundg (I'.length - (j + 1))
                  case measure => omega
                  case rel => exact ⟨j + 1, by omega, by go_num, by rw [HP.out.1]; exact HA5.out⟩
              | some r =>
                obtain ⟨m1, m2⟩ := look_mem hlk
                obtain ⟨n1, n2⟩ := hok.out.reg r m1
                have hz := hok.out.sz
                have hpo : placesOf s' x = spots r r.n := by unfold placesOf; rw [hlk]
                rw [hpo] at hpn
                have hul := places_length hok.out hIn.out
                have hus := hok.out.used_le
                have HP := Lib.hid (And.intro hpn (And.intro hx (And.intro hlk hul)))
                have hmax : max (r.n : Int) 0 = r.n := by omega
                have hsz2 : (r.base : Int) + r.n ≤ size := by have := hsn.out; omega
                clear hpn hpo hlk hx hul
                go_wp2_with fail
                refine (base_is b s' x r.base (by rw [HP.out.2.2.1]) _ HA2.out.a.o HB.out.1 HB.out.2).mono ?_
                rintro e w7 ⟨rfl, q7⟩
                have HA3 := Lib.hid (HA2.out.quiet q7)
                clear HA2 q7 cu
                go_wp2_with fail
                refine (len_is b s' x r.n (by rw [HP.out.2.2.1]) _ HA3.out.a.o HB.out.1 HB.out.2).mono ?_
                rintro e w8 ⟨rfl, q8⟩
                have A4 : At2 W w8 mb b s' (.slice (some ⟨u, 0, none⟩) I'.length cap2) I' (places s' (I'.take j) ++ spots r 0) := by simpa [spots] using HA3.out.quiet q8
                clear HA3 q8
                go_wp2_with fail
                go_loopg [74] r.n (fun gg i wr => ∃ p : Nat, p + gg = r.n ∧ i = .int .i64 p ∧ At2 W wr mb b s' (.slice (some ⟨u, 0, none⟩) I'.length cap2) I' (places s' (I'.take j) ++ spots r p))
                case atStart => exact ⟨0, Nat.zero_add _, rfl, A4⟩
                case round =>
                  obtain ⟨p, hp, rfl, hA5⟩ := hrel
                  by_cases hpl : p < r.n
                  · have hfp := fresh_place hok.out hIn.out.nodup HP.out.2.1 HP.out.2.2.1 hpl
                    have htl : (places s' (I'.take j) ++ spots r p).length ≤ 4194304 := by
                      have h1 : (places s' (I'.take j)).length ≤ (places s' I').length := by
                        have : places s' I' = places s' (I'.take j) ++ places s' (I'.drop j) := by
                          unfold places
                          rw [← List.flatMap_append, List.take_append_drop]
                        rw [this, List.length_append]
                        omega
                      have h2 := HP.out.2.2.2
                      have h3 : (spots r p).length = p := by simp [spots]
                      rw [List.length_append, h3]
                      omega
                    obtain ⟨hlk2, w9, hup, A6⟩ := hA5.add (x := (r.base : Int) + p) (by omega) (by omega) hfp htl
                    rw [List.append_assoc, ← spots_next] at A6
                    have A6 := Lib.hid A6
                    have hpl' : (p : Int) < r.n := by omega
                    have hp0 : decide ((r.base : Int) + p < 0) = false := by simp; omega
                    have hp1 : decide (size ≤ (r.base : Int) + p) = false := by simp; omega
                    clear hA5 A4 hfp htl
                    go_wp2_with fail
                    go_roundg (r.n - (p + 1))
                    case measure => omega
                    case rel => exact ⟨p + 1, by omega, by go_num, A6.out⟩
                  · obtain rfl : p = r.n := by omega
                    rw [← HP.out.1] at hA5
                    have HA5 := Lib.hid hA5
                    have hf3 : ¬ ((r.n : Int) < r.n) := by omega
                    clear hA5 A4
                    go_wp2_with fail
                    go_roundg (I'.length - (j + 1))
                    case measure => omega
                    case rel => exact ⟨j + 1, by omega, by go_num, HA5.out⟩
            · obtain rfl : j = I'.length := by omega
              have hul := places_length hok.out hIn.out
              have hus := hok.out.used_le
              rw [List.take_length] at hA
              have hlen3 : ∀ ty, (Builtin.len_ #[55] ty #[.map (some mb)]).run Try.prog wr = .ok (.int .i64 s'.used) wr := fun ty => by
                rw [hA.h.len ty, hul]
              have hmx : ((s'.size : Int) - s'.used + s'.used != max size 0) = false := by simp; have := hsn.out; omega
              have HA2 := Lib.hid hA
              have hz := hok.out.sz
              clear hA A3 hul
              have hf3 : ¬ ((I'.length : Int) < I'.length) := by omega
              have hnk : I'.length ≤ k + 1 := hil'
              go_wp2_with fail
              refine (one_left b none s' mm _ HA2.out.a.o).mono ?_
              rintro e w9 ⟨rfl, rfl⟩
              have HF := Lib.hid (HA2.out.a.less (X' := []) (by simp))
              clear HA2
              go_wp2_with fail
              go_roundg (len - (k + 1))
              case measure => omega
              case rel => exact ⟨k + 1, s', I', by omega, by go_num, HF.out, hIn.out, hl2, hsn.out, hnk⟩
      · obtain rfl : k = len := by omega
        have hf : ¬ ((k : Int) < k) := by omega
        have Q := Lib.hid hT.o.keep
        clear hT T0
        go_wp2
        go_ret
        exact ⟨rfl, Q.out.below (Nat.le_refl _) (fun _ _ h => h)⟩

end Go.Proofs.Ytklknkeanmjhnaa.ArenaApart
