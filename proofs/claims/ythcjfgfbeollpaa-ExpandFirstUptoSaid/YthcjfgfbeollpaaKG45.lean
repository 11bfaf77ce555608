/- The code's isPlain (layer 13): a plain expression whose lists lie in plain cells is told so; one whose own fields aren't a plain one's is not. -/
import Derived.Test.YthcjfgfbeollpaaKG44
import Derived.Test.YthcjfgfbeollpaaKG33
import Derived.Laws.EntriesVeiled
namespace Go.Proofs.Ythcjfgfbeollpaa.P13
open Go.RowKit Go.Proofs.Ythcjfgfbeollpaa.Base Go.Proofs.Ythcjfgfbeollpaa.Bytes Go.Proofs.Ythcjfgfbeollpaa.P07 Go.Proofs.Ythcjfgfbeollpaa.P08
open Go.Proofs.Ythcjfgfbeollpaa.Sets (ST)

theorem fld_is {t : T} {bl o : Nat} {a : Option Addr} {c : Nat} {w : World} (h : NodeP w bl o t a c) {r : Bool} (hr : fldP t = r) : Calls Try.prog 81 #[.pointer (some ⟨bl, o, none⟩)] w fun e w' => e = .returned (.bool r) ∧ w = w' := by
  subst hr
  exact fld_any t bl o a c w h
/-- What is still to be asked. -/
def meas : List LO → Nat
  | [] => 0
  | x :: X => (1 + 2 * cntL (x.t.subs.drop x.q)) + meas X
theorem meas_append : ∀ X Y : List LO, meas (X ++ Y) = meas X + meas Y
  | [], Y => by rw [List.nil_append, meas, Nat.zero_add]
  | x :: X, Y => by rw [List.cons_append, meas, meas, meas_append X Y]; omega
theorem meas_len : ∀ X : List LO, X.length ≤ meas X
  | [] => Nat.le_refl 0
  | x :: X => by
    have := meas_len X
    rw [meas, List.length_cons]
    omega
theorem cntL_drop {L : List T} {q : Nat} {u : T} (h : L[q]? = some u) : cntL (L.drop q) = cnt u + cntL (L.drop (q + 1)) := by
  obtain ⟨hq, rfl⟩ := List.getElem?_eq_some_iff.1 h
  rw [List.drop_eq_getElem_cons hq, cntL]
/-- What holds of an open node, in the world where isPlain began. -/
structure It13 (w : World) (x : LO) : Prop where
  at_ : NodeP w x.bl x.off x.t x.a x.c
  zb : Zb w x.bl
  lie : Lie w (Zb w) x.a x.t.subs
  le : x.t.subs.length ≤ x.c
  pl : isP x.t = true
  q : x.q ≤ x.t.subs.length
/-- In the loop. -/
structure Pq (w : World) (mb N gg : Nat) (u : Value) (X : List LO) (W : World) : Prop where
  row : RO W (w.heap.size) u X
  far : u.ownBlock ≠ some mb
  map : ∃ n, PM W w.heap.size mb N n ∧ n + gg ≤ N
  low : w.heap.size ≤ mb
  it : ∀ x ∈ X, It13 w x
  down : X.Pairwise fun x y => SizeOf.sizeOf y.t < SizeOf.sizeOf x.t
  ms : meas X = gg
  keep : Keep (fun _ => False) w W

theorem Pq.next {w : World} {mb N gg : Nat} {u : Value} {X : List LO} {W W' : World} (h : Pq w mb N gg u X W) (q : Keep (fun _ => False) W W') : Pq w mb N gg u X W' := by
  obtain ⟨n, h1, h2⟩ := h.map
  exact ⟨h.row.keepF q, h.far, ⟨n, h1.keepF q, h2⟩, h.low, h.it, h.down, h.ms, h.keep.trans q⟩
theorem Pq.pop {w : World} {mb N gg : Nat} {g cap : Nat} {Y : List LO} {x : LO} {W W' : World} (h : Pq w mb N gg (.slice (some ⟨g, 0, none⟩) (Y ++ [x]).length cap) (Y ++ [x]) W) (q : Keep (fun _ => False) W W') : Pq w mb N (meas Y) (.slice (some ⟨g, 0, none⟩) Y.length cap) Y W' := by
  have hm := h.ms
  rw [meas_append] at hm
  obtain ⟨n, h1, h2⟩ := h.map
  exact ⟨h.row.pop.keepF q, h.far, ⟨n, h1.keepF q, by omega⟩, h.low, fun y hy => h.it y (by simp [hy]), (List.pairwise_append.1 h.down).1, rfl, h.keep.trans q⟩
/-- A part has been asked that has none of its own, or has been met. -/
theorem Pq.ask {w : World} {mb N gg : Nat} {g cap : Nat} {Y : List LO} {x : LO} {W : World} (h : Pq w mb N gg (.slice (some ⟨g, 0, none⟩) (Y ++ [x]).length cap) (Y ++ [x]) W) {u : T} (hu : x.t.subs[x.q]? = some u) (hg : w.heap.size ≤ g) :
    Pq w mb N (meas (Y ++ [{ x with q := x.q + 1 }])) (.slice (some ⟨g, 0, none⟩) (Y ++ [x]).length cap) (Y ++ [{ x with q := x.q + 1 }]) (W.setCell ⟨g, Y.length * 2 + 1, none⟩ (.int .i64 ((x.q : Int) + 1))) ∧ meas (Y ++ [{ x with q := x.q + 1 }]) + 2 * cnt u = gg ∧ ∃ n, PM (W.setCell ⟨g, Y.length * 2 + 1, none⟩ (.int .i64 ((x.q : Int) + 1))) w.heap.size mb N n ∧ n + gg ≤ N := by
  have hm := h.ms
  have hq := (List.getElem?_eq_some_iff.1 hu).1
  have hd := cntL_drop hu
  have hmm : meas (Y ++ [{ x with q := x.q + 1 }]) + 2 * cnt u = gg := by
    rw [← hm, meas_append, meas_append, meas, meas, meas, meas, hd]
    show _ + (1 + 2 * cntL (x.t.subs.drop (x.q + 1)) + 0) + 2 * cnt u = _
    omega
  obtain ⟨n, h1, h2⟩ := h.map
  rw [show ((x.q : Int) + 1) = ((x.q + 1 : Nat) : Int) from by omega]
  refine ⟨⟨h.row.ask (x.q + 1), h.far, ⟨n, h1.set (fun e => h.far (by rw [e]; rfl)) _ _, by omega⟩, h.low, fun y hy => ?_, ?_, rfl, h.keep.setCell (fun hl => by have hl : g < w.heap.size := hl; omega) _⟩, hmm, n, h1.set (fun e => h.far (by rw [e]; rfl)) _ _, h2⟩
  · rcases List.mem_append.1 hy with hy | hy
    · exact h.it y (by simp [hy])
    · rw [List.mem_singleton.1 hy]
      have hx := h.it x (by simp)
      exact ⟨hx.at_, hx.zb, hx.lie, hx.le, hx.pl, hq⟩
  · obtain ⟨d1, d2, d3⟩ := List.pairwise_append.1 h.down
    refine List.pairwise_append.2 ⟨d1, List.pairwise_singleton _ _, fun y hy z hz => ?_⟩
    rw [List.mem_singleton.1 hz]
    exact d3 y hy x (by simp)
/-- .. or it is opened. -/
theorem Pq.open_ {w : World} {mb N gg : Nat} {v : Value} {X : List LO} {W w1 w2 : World} (h : Pq w mb N gg v X W) (z : LO) (hz : It13 w z) (hd : ∀ x ∈ X, SizeOf.sizeOf z.t < SizeOf.sizeOf x.t) {n : Nat} (hm : PM w1 w.heap.size mb N (n + 1)) (hn : n + 1 + (gg + meas [z]) ≤ N) (q1 : Keep (· = mb) W w1)
    {v' : Value} (hr : RO w2 w.heap.size v' (X ++ [z])) (q2 : Keep (fun b => v.ownBlock = some b) w1 w2) (hb : ∀ g, v'.ownBlock = some g → v.ownBlock = some g ∨ w1.heap.size ≤ g) (hz2 : ∀ k, k < w.heap.size → Zb w1 k → Zb w2 k) : Pq w mb N (gg + meas [z]) v' (X ++ [z]) w2 := by
  have hlt := hm.lt
  refine ⟨hr, fun e => ?_, ⟨n + 1, hm.turn (q2.block mb hlt h.far) hz2, hn⟩, h.low, fun y hy => ?_, ?_, by rw [meas_append, h.ms], (h.keep.next q1 (fun i hi hl => by have := h.low; omega)).next q2 (fun i hi hl => by have := h.row.own i hi; omega)⟩
  · rcases hb mb e with h1 | h1
    · exact h.far h1
    · omega
  · rcases List.mem_append.1 hy with hy | hy
    · exact h.it y hy
    · rw [List.mem_singleton.1 hy]
      exact hz
  · refine List.pairwise_append.2 ⟨h.down, List.pairwise_singleton _ _, fun y hy x hx => ?_⟩
    rw [List.mem_singleton.1 hx]
    exact hd y hy

set_option maxRecDepth 100000 in
set_option maxHeartbeats 16000000 in
theorem isp_true (t : T) (bl off : Nat) (a : Option Addr) (c : Nat) (w : World) (h : NodeP w bl off t a c) (hz : Zb w bl) (hL : Lie w (Zb w) a t.subs) (hc : t.subs.length ≤ c) (hp : isP t = true) (hcnt : cnt t ≤ 100000) :
    Calls Try.prog 57 #[.pointer (some ⟨bl, off, none⟩)] w fun e w' => e = .returned (.bool true) ∧ Keep (fun _ => False) w w' := by
  have hf : fldP t = true := by
    rw [isP_eq, Bool.and_eq_true] at hp
    exact hp.1
  have HF := Lib.hid (fld_is h hf)
  obtain ⟨N, hN⟩ : ∃ N, N = 2 * cnt t := ⟨_, rfl⟩
  have hcs := cnt_eq t
  have hM : meas [(⟨t, bl, off, a, c, 0⟩ : LO)] + 1 = N := by
    rw [meas, meas, hN, hcs]
    show 1 + 2 * cntL (t.subs.drop 0) + 0 + 1 = _
    rw [List.drop_zero]
    omega
  have hN' : N ≤ 200000 := by omega
  have i0 : It13 w ⟨t, bl, off, a, c, 0⟩ := ⟨h, hz, hL, hc, hp, Nat.zero_le _⟩
  have r0 := RO.one (W := w) (n0 := w.heap.size) ⟨t, bl, off, a, c, 0⟩ (Nat.le_refl _)
  have q0 := (Keep.refl (fun _ => False) w).alloc (.cells (ocells ⟨t, bl, off, a, c, 0⟩) 109)
  have q1 := (Keep.refl (fun _ => False) (w.alloc (.cells (ocells ⟨t, bl, off, a, c, 0⟩) 109))).alloc (.map #[] 0)
  have hs1 : (w.alloc (.cells (ocells ⟨t, bl, off, a, c, 0⟩) 109)).heap.size = w.heap.size + 1 := by simp
  have m0 := PM.new (w.alloc (.cells (ocells ⟨t, bl, off, a, c, 0⟩) 109)) w.heap.size N
  rw [hs1] at m0
  have I0 := Lib.hid (show Pq w (w.heap.size + 1) N (meas [(⟨t, bl, off, a, c, 0⟩ : LO)]) (.slice (some ⟨w.heap.size, 0, none⟩) 1 1) [⟨t, bl, off, a, c, 0⟩] ((w.alloc (.cells (ocells ⟨t, bl, off, a, c, 0⟩) 109)).alloc (.map #[] 0)) from
    ⟨r0.keepF q1, fun (e : some w.heap.size = some (w.heap.size + 1)) => by injection e with e; omega, ⟨0, m0, by omega⟩, by omega, fun x hx => by rw [List.mem_singleton.1 hx]; exact i0, List.pairwise_singleton _ _, rfl, q0.trans q1⟩)
  have HM := Lib.hid (And.intro hM hN')
  clear hp hf hN hcs hM i0 r0 q0 q1 hs1 m0 h hz hL hc hcnt hN'
  have hmm := @run_makeMap Try.prog
  go_enter Try.func57, Try.ntmps57
  go_wp2_with (go_at_call 81; refine HF.out.mono ?_; rintro e w2 ⟨rfl, rfl⟩)
  clear hmm
  go_loopg [3] (meas [(⟨t, bl, off, a, c, 0⟩ : LO)]) (fun gg u W => ∃ X, Pq w (w.heap.size + 1) N gg u X W)
  case atStart => exact ⟨_, I0.out⟩
  case round =>
    obtain ⟨X, I⟩ := hrel
    rcases List.eq_nil_or_concat X with rfl | ⟨Y, x, rfl⟩
    · have hu : ∃ a' cap', u3 = .slice a' 0 cap' := by
        rcases I.row.form with ⟨-, a', cap', e⟩ | ⟨g, cap, e, -⟩
        · exact ⟨a', cap', e⟩
        · exact ⟨_, cap, e⟩
      obtain ⟨a', cap', rfl⟩ := hu
      have HK := Lib.hid I.keep
      clear I
      go_wp2_with fail
      go_ret
      exact ⟨rfl, HK.out⟩
    · rw [List.concat_eq_append] at I
      have hl : (Y ++ [x]).length = Y.length + 1 := by simp
      obtain ⟨g, cap, hu, hcap, hmax, hlow, ⟨cur, hat, -⟩, hcell⟩ : ∃ g cap, u3 = .slice (some ⟨g, 0, none⟩) (Y ++ [x]).length cap ∧ (Y ++ [x]).length ≤ cap ∧ cap ≤ 9223372036854775807 ∧ w.heap.size ≤ g ∧ (∃ cur, At wr g 109 cur ∧ (Y ++ [x]).length * 2 ≤ cur.size) ∧ ∀ i y, (Y ++ [x])[i]? = some y → wr.cell? ⟨g, i * 2, none⟩ = some (.pointer (some ⟨y.bl, y.off, none⟩)) ∧ wr.cell? ⟨g, i * 2 + 1, none⟩ = some (.int .i64 y.q) := by
        rcases I.row.form with ⟨e, -⟩ | h
        · simp at e
        · exact h
      rw [hl] at hcap
      have II := Lib.hid (show Pq w (w.heap.size + 1) N gk (.slice (some ⟨g, 0, none⟩) (Y ++ [x]).length cap) (Y ++ [x]) wr from by rw [← hu]; exact I)
      rw [hl] at hu
      subst hu
      have fQ := hat.frozen (Y.length * 2 + 1)
      clear hat
      obtain ⟨cN, cQ⟩ := hcell Y.length x (by simp)
      have hx := I.it x (by simp)
      obtain ⟨c0, c1, c2, c3, c4, c5, c6, c7⟩ := (hx.at_.keepF I.keep).eight
      have HC := Lib.hid hcell
      have HX := Lib.hid hx
      have hYg : Y.length ≤ 200000 := by
        have h1 := meas_len (Y ++ [x])
        have h2 := I.ms
        obtain ⟨n, -, h3⟩ := I.map
        have := HM.out.2
        omega
      have hsl : x.t.subs.length ≤ 9223372036854775807 := hx.lie.len
      have hxq := hx.q
      clear I hcell hx hl c0 c1 c2 c3 c4 c5 c6
      by_cases hq : x.q = x.t.subs.length
      · have hqi : ((x.q : Int) == (x.t.subs.length : Int)) = true := by simp [hq]
        clear hq
        go_wp2_with fail
        go_quiet (fail)
        go_wp2_with fail
        go_roundg (meas Y)
        case measure =>
          have h1 := II.out.ms
          rw [meas_append, meas] at h1
          omega
        case rel => exact ⟨Y, II.out.pop ((Keep.refl _ _).drewN _)⟩
      · have hq' : x.q < x.t.subs.length := by omega
        have hqi : ((x.q : Int) == (x.t.subs.length : Int)) = false := by simp; omega
        clear hq
        obtain ⟨u, hu⟩ : ∃ u, x.t.subs[x.q]? = some u := ⟨x.t.subs[x.q], List.getElem?_eq_getElem hq'⟩
        obtain ⟨bl2, off2, a2, c2, ea, hok, hlt2, hle2, L2, C2⟩ := HX.out.lie.get hu
        rw [ea] at c7
        have iz : It13 w ⟨u, bl2, off2 + x.q * 8, a2, c2, 0⟩ := ⟨⟨hlt2, C2⟩, hok, L2, hle2, isP_subs HX.out.pl u (List.mem_of_getElem? hu), Nat.zero_le _⟩
        have hdn : ∀ y ∈ Y ++ [x], SizeOf.sizeOf u < SizeOf.sizeOf y.t := fun y hy => by
          have h1 := subs_lt (List.mem_of_getElem? hu)
          rcases List.mem_append.1 hy with hy | hy
          · have h2 := (List.pairwise_append.1 II.out.down).2.2 y hy x (by simp)
            omega
          · rw [List.mem_singleton.1 hy]
            exact h1
        have hul : u.subs.length ≤ 9223372036854775807 := L2.len
        have HU := Lib.hid (And.intro hu (And.intro iz hdn))
        clear hu iz hdn L2 C2 hok hlt2 hle2 ea
        go_wp2_with fail
        go_quiet (fail)
        go_wp2_with fail
        go_quiet (fail)
        go_upto_region 11 with fail
        have key : ∀ k, _ := fun k => (II.out.next ((Keep.refl (fun _ => False) wr).drewN k)).ask HU.out.1 hlow
        have KEY := Lib.hid key
        clear key
        generalize hW1 : (World.setCell (World.drewN wr _) _ _) = W1
        have I1 : Pq w (w.heap.size + 1) N (meas (Y ++ [{ x with q := x.q + 1 }])) (.slice (some ⟨g, 0, none⟩) (Y.length + 1) cap) (Y ++ [{ x with q := x.q + 1 }]) W1 ∧ meas (Y ++ [{ x with q := x.q + 1 }]) + 2 * cnt u = gk ∧ ∃ n, PM W1 w.heap.size (w.heap.size + 1) N n ∧ n + gk ≤ N := by
          rw [← hW1]
          have h1 := KEY.out
          rw [show (Y ++ [x]).length = Y.length + 1 from by simp] at h1
          exact h1 _
        clear hW1 KEY cN cQ fQ c7 hqi hq'
        obtain ⟨n, hPM, hn⟩ := I1.2.2
        have hZ : Zb W1 bl2 := HU.out.2.1.zb.keep I1.1.keep (fun h => h)
        obtain ⟨cc, B, hlook, hc0, hcN⟩ := hPM.look Try.underlying89 (a := ⟨bl2, off2 + x.q * 8, none⟩) hZ
        have hl1 := hlook W1 (Keep.refl _ _)
        have hN2 : NodeP W1 bl2 (off2 + x.q * 8) u a2 c2 := HU.out.2.1.at_.keepF I1.1.keep
        have hfu : fldP u = true := by
          have := HU.out.2.1.pl
          rw [isP_eq, Bool.and_eq_true] at this
          exact this.1
        have HF2 := Lib.hid (fld_is hN2 hfu)
        obtain ⟨-, -, -, -, -, -, -, d7⟩ := hN2.eight
        obtain ⟨h13, hrow⟩ : (∀ i y, (Y ++ [({ x with q := x.q + 1 } : LO)])[i]? = some y → W1.cell? ⟨g, i * 2, none⟩ = some (.pointer (some ⟨y.bl, y.off, none⟩))) ∧ RO W1 w.heap.size (.slice (some ⟨g, 0, none⟩) (Y.length + 1) cap) (Y ++ [{ x with q := x.q + 1 }]) := by
          refine ⟨?_, I1.1.row⟩
          rcases I1.1.row.form with ⟨e, -⟩ | ⟨g', cap', e, -, -, -, -, hcell⟩
          · simp at e
          · injection e with e1 e2 e3
            injection e1 with e1
            injection e1 with e1
            subst e1
            exact fun i y hy => (hcell i y hy).1
        have hother : ∀ (i : Nat) (y : LO), (Y ++ [({ x with q := x.q + 1 } : LO)])[i]? = some y → (binOp .eql 79 (.pointer (some ⟨y.bl, y.off, none⟩)) (.pointer (some ⟨bl2, off2 + x.q * 8, none⟩))).run Try.prog W1 = .ok (.bool false) W1 := fun i y hy => by
          have hy' : y ∈ Y ++ [({ x with q := x.q + 1 } : LO)] := List.mem_of_getElem? hy
          have h1 := I1.1.it y hy'
          have h2 : SizeOf.sizeOf u < SizeOf.sizeOf y.t := by
            rcases List.mem_append.1 hy' with h | h
            · exact HU.out.2.2 y (by simp [h])
            · rw [List.mem_singleton.1 h]
              exact HU.out.2.2 x (by simp)
          obtain ⟨i0, hi0, -, hz1, -⟩ := info_parts infoN
          obtain ⟨ca, ta, ha⟩ := h1.zb.keep I1.1.keep (fun h => h)
          obtain ⟨cb, tb, hb⟩ := hZ
          refine run_eql_ptr_other W1 Try.underlying79 hi0 (by omega) (fun e => ?_) ha hb
          injection e with e1 e2
          have h3 := h1.at_
          rw [e1, e2] at h3
          have h4 := node_det h3 HU.out.2.1.at_ h1.lie HU.out.2.1.lie
          rw [h4] at h2
          exact absurd h2 (Nat.lt_irrefl _)
        have J := Lib.hid (And.intro I1 (And.intro hPM (And.intro hn hrow)))
        clear I1 hPM hn hlook hN2 hfu hrow
        have hgk : meas (Y ++ [({ x with q := x.q + 1 } : LO)]) < gk := by
          have := J.out.1.2.1
          have := cnt_eq u
          omega
        cases B with
        | true =>
          by_cases hcc : cc < (Y.length : Int) + 1
          · obtain ⟨i, rfl⟩ : ∃ i : Nat, cc = i := ⟨cc.toNat, by omega⟩
            have hi : i < (Y ++ [({ x with q := x.q + 1 } : LO)]).length := by simp; omega
            obtain ⟨y, hy⟩ : ∃ y, (Y ++ [({ x with q := x.q + 1 } : LO)])[i]? = some y := ⟨_, List.getElem?_eq_getElem hi⟩
            have k1 := h13 i y hy
            have k2 := hother i y hy
            clear h13 hother hy hi
            go_wp2_with (go_at_call 81; refine HF2.out.mono ?_; rintro e w2 ⟨rfl, rfl⟩)
            go_roundg (meas (Y ++ [({ x with q := x.q + 1 } : LO)]))
            case measure => omega
            case rel => exact ⟨_, J.out.1.1⟩
          · clear h13 hother
            go_wp2_with (go_at_call 81; refine HF2.out.mono ?_; rintro e w2 ⟨rfl, rfl⟩)
            go_roundg (meas (Y ++ [({ x with q := x.q + 1 } : LO)]))
            case measure => omega
            case rel => exact ⟨_, J.out.1.1⟩
        | false =>
          clear h13 hother
          by_cases hs : 0 < u.subs.length
          · have hs' : (0 : Int) < u.subs.length := by omega
            clear hs
            have hml := meas_len (Y ++ [({ x with q := x.q + 1 } : LO)])
            rw [List.length_append, List.length_singleton] at hml
            obtain ⟨w2, hput, hPM2, q2⟩ := J.out.2.1.put Try.underlying89 (a := ⟨bl2, off2 + x.q * 8, none⟩) HU.out.2.1.at_.lt hZ (c := (Y.length : Int) + 1) (by omega) (by have := J.out.2.2.1; omega)
            have hgm : g ≠ w.heap.size + 1 := fun e => J.out.1.1.far (by rw [← e]; rfl)
            have hr2 := J.out.2.2.2.keep q2 (fun g' (hg' : some g = some g') e => hgm (by injection hg' with hg'; omega))
            have hs2 : w.heap.size ≤ w2.heap.size := by have := J.out.1.1.keep.size; have := q2.size; omega
            obtain ⟨v', w3, hrun, hr3, q3, hb3⟩ := hr2.push ⟨u, bl2, off2 + x.q * 8, a2, c2, 0⟩ hs2 (by simp; omega) 110
            have H9 := Lib.hid (J.out.1.1.open_ ⟨u, bl2, off2 + x.q * 8, a2, c2, 0⟩ HU.out.2.1 (fun y hy => by
                rcases List.mem_append.1 hy with h | h
                · exact HU.out.2.2 y (by simp [h])
                · rw [List.mem_singleton.1 h]
                  exact HU.out.2.2 x (by simp)) hPM2 (by
                have h1 := J.out.1.2.1
                have h2 := J.out.2.2.1
                have h3 := cnt_eq u
                rw [meas, meas]
                show _ + (_ + (1 + 2 * cntL (u.subs.drop 0) + 0)) ≤ _
                rw [List.drop_zero]
                omega) q2 hr3 q3 hb3 (fun k hk hz => hz.keep q3 (fun (e : some g = some k) => by injection e with e; omega)))
            have hms : meas (Y ++ [({ x with q := x.q + 1 } : LO)]) + meas [(⟨u, bl2, off2 + x.q * 8, a2, c2, 0⟩ : LO)] < gk := by
              have h1 := J.out.1.2.1
              have h3 := cnt_eq u
              rw [meas, meas]
              show _ + (1 + 2 * cntL (u.subs.drop 0) + 0) < _
              rw [List.drop_zero]
              omega
            clear hml hPM2 q2 hgm hr2 hs2 hr3 q3 hb3
            go_wp2_with (first | (go_at_call 81; refine HF2.out.mono ?_; rintro e w2 ⟨rfl, rfl⟩) | (at_builtin; refine Lib.wpList_append_run _ rfl _ _ _ _ rfl _ _ rfl rfl _ _ hrun ?_))
            go_roundg (meas (Y ++ [({ x with q := x.q + 1 } : LO)]) + meas [(⟨u, bl2, off2 + x.q * 8, a2, c2, 0⟩ : LO)])
            case measure => omega
            case rel => exact ⟨_, H9.out⟩
          · have hs' : ¬ (0 : Int) < u.subs.length := by omega
            clear hs
            go_wp2_with (go_at_call 81; refine HF2.out.mono ?_; rintro e w2 ⟨rfl, rfl⟩)
            go_roundg (meas (Y ++ [({ x with q := x.q + 1 } : LO)]))
            case measure => omega
            case rel => exact ⟨_, J.out.1.1⟩
end Go.Proofs.Ythcjfgfbeollpaa.P13
