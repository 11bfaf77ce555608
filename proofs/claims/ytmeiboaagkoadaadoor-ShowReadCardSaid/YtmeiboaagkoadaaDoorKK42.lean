/- The code's closure that goes down (layer 8): it writes a right expression's text behind what a builder holds. -/
import Derived.Test.YtmeiboaagkoadaaDoorKK37
import Derived.Test.YtmeiboaagkoadaaDoorKK41
import Derived.Test.YtmeiboaagkoadaaDoorKK26
import Derived.Test.YtmeiboaagkoadaaDoorKK16
import Derived.Test.YtmeiboaagkoadaaDoorKK34
import Derived.Test.YtmeiboaagkoadaaDoorKK06
namespace Go.Proofs.YtmeiboaagkoadaaDoor.P08
open Go.RowKit Go.Proofs.YtmeiboaagkoadaaDoor.Base Go.Proofs.YtmeiboaagkoadaaDoor.Bytes Go.Proofs.YtmeiboaagkoadaaDoor.P07
open Go.Proofs.YtmeiboaagkoadaaDoor.Sets (ST)
open Go.Proofs.YtmeiboaagkoadaaDoor.Ref06 (write_bd writeByte_bd string_bd)

theorem tab_keep {S : Nat → Prop} {w w' : World} (h : Tab w) (q : Keep S w w') (hS : ¬ S 0) : Tab w' := fun j hj => by
  have hc := h j hj
  exact (q.cell (a := ⟨0, j, none⟩) (World.block_lt_of_cell? w _ hc) hS).trans hc

/-- The function's own value, in the variable in block g; the builder in block b. -/
@[reducible] def downV (b g : Nat) : Value := .func (.func 24) #[] #[.pointer (some ⟨b, 0, none⟩), .pointer (some ⟨g, 0, none⟩)]
/-- The builder in block b holds U, the variable in block g the function. -/
structure TB (w : World) (B b g : Nat) (U : List UInt8) : Prop where
  bd : ∃ v, Ref06.Bd w B b v (Lib.byteCells U)
  fn : At w g 63 #[downV b g]
  ne : g ≠ b
  low : B ≤ g
  le : B ≤ w.heap.size
  tab : Tab w
  tlt : 0 < B
theorem TB.keepF {w w' : World} {B b g : Nat} {U : List UInt8} (h : TB w B b g U) (q : Keep (fun _ => False) w w') : TB w' B b g U := by
  obtain ⟨v, hv⟩ := h.bd
  exact ⟨⟨v, hv.keep q (fun _ h => h)⟩, h.fn.keep q (fun h => h), h.ne, h.low, Nat.le_trans h.le q.size, h.tab.keep q, h.tlt⟩
/-- What writing leaves. -/
theorem TB.wrote {w w' : World} {B b g : Nat} {U V : List UInt8} {v v' : Value} {bs : List Value} (h : TB w B b g U) (hv : Ref06.Bd w B b v (Lib.byteCells U)) (h' : Ref06.Bd w' B b v' bs) (e : bs = Lib.byteCells V) (q : Keep (fun k => k = b ∨ v.ownBlock = some k) w w') :
    TB w' B b g V ∧ Keep (fun k => B ≤ k) w w' := by
  subst e
  have hb : ∀ k, (k = b ∨ v.ownBlock = some k) → B ≤ k := fun k hk => by
    rcases hk with rfl | hk
    · exact hv.base
    · exact Ref06.own_base hv.own hk
  have qB := q.mono hb
  exact ⟨⟨⟨v', h'⟩, hv.side h.fn (by decide) h.ne q, h.ne, h.low, Nat.le_trans h.le q.size, tab_keep h.tab qB (by have := h.tlt; omega), h.tlt⟩, qB⟩
theorem TB.str {w : World} {B b g : Nat} {U : List UInt8} (h : TB w B b g U) (l : List UInt8) (hlen : U.length + l.length ≤ 140737488355328) :
    Calls Tryd.prog 25 #[.pointer (some ⟨b, 0, none⟩), Bytes.str l] w fun e w' => e = .returned (.tuple #[.int .i64 l.length, .nilIface]) ∧ TB w' B b g (U ++ l) ∧ Keep (fun k => B ≤ k) w w' := by
  obtain ⟨v, hv⟩ := h.bd
  refine (write_bd B b v _ l w hv (by rw [Lib.byteCells_length]; omega) h.le).mono ?_
  rintro e w' ⟨rfl, v', h', q⟩
  exact ⟨rfl, h.wrote hv h' (by simp [Lib.byteCells]) q⟩
theorem TB.byte {w : World} {B b g : Nat} {U : List UInt8} (h : TB w B b g U) (c : UInt8) (x : Int) (hx : (c.toNat : Int) = x) (hlen : U.length + 1 ≤ 140737488355328) :
    Calls Tryd.prog 27 #[.pointer (some ⟨b, 0, none⟩), .int .u8 x] w fun e w' => e = .returned .nilIface ∧ TB w' B b g (U ++ [c]) ∧ Keep (fun k => B ≤ k) w w' := by
  subst hx
  obtain ⟨v, hv⟩ := h.bd
  refine (writeByte_bd B b v _ (c.toNat : Int) w hv (by rw [Lib.byteCells_length]; omega) h.le).mono ?_
  rintro e w' ⟨rfl, v', h', q⟩
  exact ⟨rfl, h.wrote hv h' (by simp [Lib.byteCells]) q⟩

/-- What the closure does with an expression. -/
def DownOk (t : T) : Prop := ∀ (bl o : Nat) (a : Option Addr) (c : Nat) (w : World) (B b g : Nat) (U : List UInt8), NodeP w bl o t a c → bl < B → Lie w (fun k => k < B) a t.subs → TB w B b g U → U.length + (txt t).length ≤ 3000000000 →
  Calls Tryd.prog 24 #[.pointer (some ⟨bl, o, none⟩), .pointer (some ⟨b, 0, none⟩), .pointer (some ⟨g, 0, none⟩)] w fun e w' => e = .returned (.tuple #[]) ∧ TB w' B b g (U ++ txt t) ∧ Keep (fun k => B ≤ k) w w'

set_option maxRecDepth 100000 in
set_option maxHeartbeats 4000000 in
theorem down_class (t : T) (d : Nat) (hR : RT d t) (hk : t.kind = 2) : DownOk t := fun bl o a c w B b g U hP hb hL hT hlen => by
  obtain ⟨s, hs, e, he⟩ := kind2 hR hk
  have hl0 : t.subs.length = 0 := by rw [e]; rfl
  have ht : txt t = Bytes.textT t.set := by
    rw [he, textT_eq hs]
    rw [e]
    rfl
  have hso : t.set.Ok := by rw [e]; exact hs
  obtain ⟨c0, c1, c2, c3, c4, -, -, -⟩ := hP.eight
  have ek : (t.kind == 2) = true := by simp [hk]
  have ek5 : (t.kind == 5) = false := by simp [hk]
  rw [ht] at hlen ⊢
  have HT := Lib.hid (And.intro hT (And.intro hP hlen))
  clear hk he e hL hR hs ht hT hP hlen
  go_enter Tryd.func24, Tryd.ntmps24
  go_wp2_with fail
  refine (Bytes.text_any t.set hso _ HT.out.1.tab).mono ?_
  rintro e w1 ⟨rfl, q1⟩
  have T1 := Lib.hid (HT.out.1.keepF q1)
  have P1 := Lib.hid (HT.out.2.1.keepF q1)
  have Q1 := Lib.hid q1
  clear q1 c0 c1 c2 c3 c4
  go_wp2_with fail
  refine (T1.out.str (Bytes.textT t.set) (by have := HT.out.2.2; omega)).mono ?_
  rintro e w2 ⟨rfl, t2, q2⟩
  have hP2 := P1.out.keep q2 (by omega)
  obtain ⟨c0, -, -, -, -, -, -, c7⟩ := hP2.eight
  rw [hl0] at c7
  have H2 := Lib.hid (And.intro t2 (And.intro (((Q1.out.mono (fun _ h => h.elim)) : Keep (fun k => B ≤ k) w w1).trans q2) hP2))
  clear t2 q2 hP2
  go_wp2_with fail
  go_loopg [4, 5, 22] 0 (fun gg s4 s5 i wr => i = .int .i64 0 ∧ wr = w2)
  case atStart => exact ⟨rfl, rfl⟩
  case round =>
    obtain ⟨rfl, rfl⟩ := hrel
    go_wp2_with fail
    go_end0
    exact ⟨rfl, H2.out.1, H2.out.2.1⟩

/-- How one part lengthens the text. -/
theorem part_len {k : Int} {L : List T} {i : Nat} {s : T} (h : L[i]? = some s) (M : Nat) (hM : (subT k true L).length ≤ M) : (subT k true (L.take i)).length + ((if k = 4 ∧ i ≠ 0 then [124] else []) ++ br (rnd k s.kind) (txt s) : List UInt8).length ≤ M := by
  have h1 := subT_take (k := k) h
  have h2 := subT_pre k true L (i + 1)
  rw [h1, List.length_append] at h2
  omega

set_option maxRecDepth 100000 in
set_option maxHeartbeats 4000000 in
theorem down_other (n : Nat) (ih : ∀ (t : T), SizeOf.sizeOf t < n → ∀ d, RT d t → DownOk t) (t : T) (hn : SizeOf.sizeOf t < n + 1) (d : Nat) (hR : RT d t) (hk : t.kind ≠ 2) : DownOk t := fun bl o a c w B b g U hP hb hL hT hlen => by
  have hlen0 := hL.len
  have htx := txt_sub hk
  have hsub := fun (s : T) (i : Nat) (h : t.subs[i]? = some s) => RL_get hR.subs h
  have ek : (t.kind == 2) = false := by simp [hk]
  have hbl : (subT t.kind true t.subs).length ≤ 3000000000 - U.length := by
    rw [htx, List.length_append] at hlen
    omega
  have hU : U.length ≤ 3000000000 := by omega
  obtain ⟨c0, -, -, -, -, -, -, c7⟩ := hP.eight
  have HD := Lib.hid (And.intro hP (And.intro hL (And.intro hT (And.intro hlen (And.intro hsub (And.intro htx (And.intro hR (And.intro hbl ih))))))))
  clear hP hL hT hlen hsub htx hR hbl ih
  have HK := Lib.hid hk
  have HN := Lib.hid hn
  clear hk hn
  go_enter Tryd.func24, Tryd.ntmps24
  go_wp2_with fail
  clear c0 c7
  go_loopg [4, 5, 22] t.subs.length (fun gg s4 s5 i wr => ∃ (k : Nat) (V : List UInt8), i = .int .i64 k ∧ k + gg = t.subs.length ∧ V = subT t.kind true (t.subs.take k) ∧ TB wr B b g (U ++ V) ∧ Keep (fun k => B ≤ k) w wr)
  case atStart => exact ⟨0, [], rfl, by omega, by rw [List.take_zero, subT_nil], by rw [List.append_nil]; exact HD.out.2.2.1, Keep.refl _ _⟩
  case round =>
    obtain ⟨k, V, rfl, hk, hV, hT, hq⟩ := hrel
    have hP := HD.out.1.keep hq (by omega)
    obtain ⟨c0, -, -, -, -, c5, c6, c7⟩ := hP.eight
    by_cases hlt : k < t.subs.length
    · have hlt' : (k : Int) < t.subs.length := by omega
      obtain ⟨s, hs⟩ : ∃ s, t.subs[k]? = some s := ⟨t.subs[k], List.getElem?_eq_getElem hlt⟩
      have hLw := HD.out.2.1.keep hq (fun k h1 h2 => by omega)
      have LL := Lib.hid hLw
      obtain ⟨b2, off, a1, e1, rfl, hb2, hbl2, -, L1, C1⟩ := LL.out.get hs
      have N1 : NodeP wr b2 (off + k * 8) s a1 e1 := ⟨hbl2, C1⟩
      obtain ⟨d0, -⟩ := N1.eight
      have hsl := sub_less hs
      have hcall := HD.out.2.2.2.2.2.2.2.2 s (by have := HN.out; omega) d (HD.out.2.2.2.2.1 s k hs)
      have hpre := subT_take (k := t.kind) hs
      have hpl := part_len (k := t.kind) hs _ HD.out.2.2.2.2.2.2.2.1
      rw [← hV] at hpre hpl
      obtain ⟨X, hX⟩ : ∃ X, txt s = X := ⟨_, rfl⟩
      obtain ⟨r, hr⟩ : ∃ r, rnd t.kind s.kind = r := ⟨_, rfl⟩
      unfold DownOk at hcall
      rw [hX, hr] at hpre hpl
      rw [hX] at hcall
      have i0 : (0 : Int) ≤ k := by omega
      have ha4 : ((t.kind == 4) = true ∧ 0 < (k : Int) ∧ t.kind = 4 ∧ k ≠ 0) ∨ ((t.kind == 4) = true ∧ ¬ 0 < (k : Int) ∧ k = 0) ∨ ((t.kind == 4) = false ∧ t.kind ≠ 4) := by
        by_cases z : t.kind = 4
        · by_cases y : k = 0
          · exact .inr (.inl ⟨by simp [z], by omega, y⟩)
          · exact .inl ⟨by simp [z], by omega, z, y⟩
        · exact .inr (.inr ⟨by simp [z], z⟩)
      have HA := Lib.hid (And.intro hcall (And.intro N1 (And.intro L1 (And.intro hr (And.intro hV (And.intro hT (And.intro hq hP)))))))
      clear hcall N1 L1 C1 hr hV hT hq hP hX hs
      have HV := Lib.hid hpre
      have HW := Lib.hid hpl
      clear hpre hpl
      rcases ha4 with ⟨z1, z2, z3⟩ | ⟨z1, z2, z3⟩ | ⟨z1, z3⟩
      · have hp := HV.out
        have hw := HW.out
        rw [if_pos z3] at hp hw
        have HP := Lib.hid (And.intro hp hw)
        clear hp hw z3
        go_wp2_with fail
        refine (HA.out.2.2.2.2.2.1.byte 124 124 rfl (by rw [List.length_append]; have := HP.out.2; simp at this; omega)).mono ?_
        rintro e wx ⟨rfl, tx, qx⟩
        have TX := Lib.hid (And.intro tx (And.intro qx (show (U ++ V ++ [124]).length = U.length + V.length + 1 from by simp; omega)))
        clear tx qx c0 c5 c6 c7 d0
        have hPx := HA.out.2.2.2.2.2.2.2.keep TX.out.2.1 (by omega)
        have Nx := HA.out.2.1.keep TX.out.2.1 (by omega)
        have Lx := HA.out.2.2.1.keep TX.out.2.1 (fun k h1 h2 => by omega)
        obtain ⟨c0, -, -, -, -, -, -, c7⟩ := hPx.eight
        obtain ⟨d0, -⟩ := Nx.eight
        have kg : wx.cell? ⟨g, 0, none⟩ = some (downV b g) := TX.out.1.fn.cell (o := 0) rfl
        have HX := Lib.hid (And.intro hPx (And.intro Nx Lx))
        clear hPx Nx Lx
        go_wp2_with fail
        go_quiet ((go_at_call 28; exact quiet_same (brk_is HA.out.2.2.2.1 _)))
        cases r
        · have hn : U.length + V.length + 1 + X.length ≤ 3000000000 := by
            have := HP.out.2
            simp [br] at this
            omega
          go_wp2_with fail
          refine (HA.out.1 b2 (off + k * 8) a1 e1 _ B b g (U ++ V ++ [124]) (HX.out.2.1.keepF ((Keep.refl _ _).drewN nq)) hb2 (HX.out.2.2.keepF ((Keep.refl _ _).drewN nq)) (TX.out.1.keepF ((Keep.refl _ _).drewN nq)) (by have := TX.out.2.2; omega)).mono ?_
          rintro e w2 ⟨rfl, t2, q2⟩
          have H2 := Lib.hid (And.intro t2 (HA.out.2.2.2.2.2.2.1.trans (TX.out.2.1.trans (((Keep.refl _ _).drewN nq).trans q2))))
          clear t2 q2 c0 c7 d0 kg
          go_wp2_with fail
          go_roundg (t.subs.length - (k + 1))
          case measure => omega
          case rel =>
            refine ⟨k + 1, _, by go_num, by omega, rfl, ?_, H2.out.2⟩
            rw [HP.out.1]
            have h := H2.out.1
            simp only [br, List.append_assoc, List.cons_append, List.nil_append] at h ⊢
            exact h
        · have hn : U.length + V.length + 1 + X.length + 2 ≤ 3000000000 := by
            have := HP.out.2
            simp [br] at this
            omega
          go_wp2_with fail
          refine ((TX.out.1.keepF ((Keep.refl _ _).drewN nq)).byte 40 40 rfl (by have := TX.out.2.2; omega)).mono ?_
          rintro e w3 ⟨rfl, t3, q3⟩
          have qx := ((Keep.refl (fun k => B ≤ k) wx).drewN nq).trans q3
          have hP3 := HX.out.1.keep qx (by omega)
          have N3 := HX.out.2.1.keep qx (by omega)
          have L3 := HX.out.2.2.keep qx (fun k h1 h2 => by omega)
          have kg3 : w3.cell? ⟨g, 0, none⟩ = some (downV b g) := t3.fn.cell (o := 0) rfl
          have H3 := Lib.hid (And.intro t3 (And.intro (HA.out.2.2.2.2.2.2.1.trans (TX.out.2.1.trans qx)) (And.intro hP3 (And.intro N3 L3))))
          clear t3 q3 qx hP3 N3 L3 c0 c7 d0 kg
          go_wp2_with fail
          refine (HA.out.1 b2 (off + k * 8) a1 e1 w3 B b g _ H3.out.2.2.2.1 hb2 H3.out.2.2.2.2 H3.out.1 (by rw [List.length_append]; have := TX.out.2.2; simp only [List.length_singleton]; omega)).mono ?_
          rintro e w4 ⟨rfl, t4, q4⟩
          have H4 := Lib.hid (And.intro t4 (H3.out.2.1.trans q4))
          clear t4 q4 kg3
          go_wp2_with fail
          refine (H4.out.1.byte 41 41 rfl (by rw [List.length_append, List.length_append]; have := TX.out.2.2; simp only [List.length_singleton]; omega)).mono ?_
          rintro e w5 ⟨rfl, t5, q5⟩
          have H5 := Lib.hid (And.intro t5 (H4.out.2.trans q5))
          clear t5 q5
          go_wp2_with fail
          go_roundg (t.subs.length - (k + 1))
          case measure => omega
          case rel =>
            refine ⟨k + 1, _, by go_num, by omega, rfl, ?_, H5.out.2⟩
            rw [HP.out.1]
            have h := H5.out.1
            simp only [br, List.append_assoc, List.cons_append, List.nil_append] at h ⊢
            exact h
      · have hp := HV.out
        have hw := HW.out
        rw [if_neg (by omega)] at hp hw
        have HP := Lib.hid (And.intro hp hw)
        clear hp hw z3
        have TX := Lib.hid (And.intro HA.out.2.2.2.2.2.1 (And.intro (Keep.refl (fun k => B ≤ k) wr) (show (U ++ V).length = U.length + V.length from by simp)))
        clear c0 c5 c6 c7 d0
        have hPx := HA.out.2.2.2.2.2.2.2.keep TX.out.2.1 (by omega)
        have Nx := HA.out.2.1.keep TX.out.2.1 (by omega)
        have Lx := HA.out.2.2.1.keep TX.out.2.1 (fun k h1 h2 => by omega)
        obtain ⟨c0, -, -, -, -, -, -, c7⟩ := hPx.eight
        obtain ⟨d0, -⟩ := Nx.eight
        have kg : wr.cell? ⟨g, 0, none⟩ = some (downV b g) := TX.out.1.fn.cell (o := 0) rfl
        have HX := Lib.hid (And.intro hPx (And.intro Nx Lx))
        clear hPx Nx Lx
        go_wp2_with fail
        go_quiet ((go_at_call 28; exact quiet_same (brk_is HA.out.2.2.2.1 _)))
        cases r
        · have hn : U.length + V.length + 0 + X.length ≤ 3000000000 := by
            have := HP.out.2
            simp [br] at this
            omega
          go_wp2_with fail
          refine (HA.out.1 b2 (off + k * 8) a1 e1 _ B b g (U ++ V) (HX.out.2.1.keepF ((Keep.refl _ _).drewN nq)) hb2 (HX.out.2.2.keepF ((Keep.refl _ _).drewN nq)) (TX.out.1.keepF ((Keep.refl _ _).drewN nq)) (by have := TX.out.2.2; omega)).mono ?_
          rintro e w2 ⟨rfl, t2, q2⟩
          have H2 := Lib.hid (And.intro t2 (HA.out.2.2.2.2.2.2.1.trans (TX.out.2.1.trans (((Keep.refl _ _).drewN nq).trans q2))))
          clear t2 q2 c0 c7 d0 kg
          go_wp2_with fail
          go_roundg (t.subs.length - (k + 1))
          case measure => omega
          case rel =>
            refine ⟨k + 1, _, by go_num, by omega, rfl, ?_, H2.out.2⟩
            rw [HP.out.1]
            have h := H2.out.1
            simp only [br, List.append_assoc, List.nil_append] at h ⊢
            exact h
        · have hn : U.length + V.length + 0 + X.length + 2 ≤ 3000000000 := by
            have := HP.out.2
            simp [br] at this
            omega
          go_wp2_with fail
          refine ((TX.out.1.keepF ((Keep.refl _ _).drewN nq)).byte 40 40 rfl (by have := TX.out.2.2; omega)).mono ?_
          rintro e w3 ⟨rfl, t3, q3⟩
          have qx := ((Keep.refl (fun k => B ≤ k) wr).drewN nq).trans q3
          have hP3 := HX.out.1.keep qx (by omega)
          have N3 := HX.out.2.1.keep qx (by omega)
          have L3 := HX.out.2.2.keep qx (fun k h1 h2 => by omega)
          have kg3 : w3.cell? ⟨g, 0, none⟩ = some (downV b g) := t3.fn.cell (o := 0) rfl
          have H3 := Lib.hid (And.intro t3 (And.intro (HA.out.2.2.2.2.2.2.1.trans (TX.out.2.1.trans qx)) (And.intro hP3 (And.intro N3 L3))))
          clear t3 q3 qx hP3 N3 L3 c0 c7 d0 kg
          go_wp2_with fail
          refine (HA.out.1 b2 (off + k * 8) a1 e1 w3 B b g _ H3.out.2.2.2.1 hb2 H3.out.2.2.2.2 H3.out.1 (by rw [List.length_append]; have := TX.out.2.2; simp only [List.length_singleton]; omega)).mono ?_
          rintro e w4 ⟨rfl, t4, q4⟩
          have H4 := Lib.hid (And.intro t4 (H3.out.2.1.trans q4))
          clear t4 q4 kg3
          go_wp2_with fail
          refine (H4.out.1.byte 41 41 rfl (by rw [List.length_append, List.length_append]; have := TX.out.2.2; simp only [List.length_singleton]; omega)).mono ?_
          rintro e w5 ⟨rfl, t5, q5⟩
          have H5 := Lib.hid (And.intro t5 (H4.out.2.trans q5))
          clear t5 q5
          go_wp2_with fail
          go_roundg (t.subs.length - (k + 1))
          case measure => omega
          case rel =>
            refine ⟨k + 1, _, by go_num, by omega, rfl, ?_, H5.out.2⟩
            rw [HP.out.1]
            have h := H5.out.1
            simp only [br, List.append_assoc, List.cons_append, List.nil_append] at h ⊢
            exact h
      · have hp := HV.out
        have hw := HW.out
        rw [if_neg (by omega)] at hp hw
        have HP := Lib.hid (And.intro hp hw)
        clear hp hw z3
        have TX := Lib.hid (And.intro HA.out.2.2.2.2.2.1 (And.intro (Keep.refl (fun k => B ≤ k) wr) (show (U ++ V).length = U.length + V.length from by simp)))
        clear c0 c5 c6 c7 d0
        have hPx := HA.out.2.2.2.2.2.2.2.keep TX.out.2.1 (by omega)
        have Nx := HA.out.2.1.keep TX.out.2.1 (by omega)
        have Lx := HA.out.2.2.1.keep TX.out.2.1 (fun k h1 h2 => by omega)
        obtain ⟨c0, -, -, -, -, -, -, c7⟩ := hPx.eight
        obtain ⟨d0, -⟩ := Nx.eight
        have kg : wr.cell? ⟨g, 0, none⟩ = some (downV b g) := TX.out.1.fn.cell (o := 0) rfl
        have HX := Lib.hid (And.intro hPx (And.intro Nx Lx))
        clear hPx Nx Lx
        go_wp2_with fail
        go_quiet ((go_at_call 28; exact quiet_same (brk_is HA.out.2.2.2.1 _)))
        cases r
        · have hn : U.length + V.length + 0 + X.length ≤ 3000000000 := by
            have := HP.out.2
            simp [br] at this
            omega
          go_wp2_with fail
          refine (HA.out.1 b2 (off + k * 8) a1 e1 _ B b g (U ++ V) (HX.out.2.1.keepF ((Keep.refl _ _).drewN nq)) hb2 (HX.out.2.2.keepF ((Keep.refl _ _).drewN nq)) (TX.out.1.keepF ((Keep.refl _ _).drewN nq)) (by have := TX.out.2.2; omega)).mono ?_
          rintro e w2 ⟨rfl, t2, q2⟩
          have H2 := Lib.hid (And.intro t2 (HA.out.2.2.2.2.2.2.1.trans (TX.out.2.1.trans (((Keep.refl _ _).drewN nq).trans q2))))
          clear t2 q2 c0 c7 d0 kg
          go_wp2_with fail
          go_roundg (t.subs.length - (k + 1))
          case measure => omega
          case rel =>
            refine ⟨k + 1, _, by go_num, by omega, rfl, ?_, H2.out.2⟩
            rw [HP.out.1]
            have h := H2.out.1
            simp only [br, List.append_assoc, List.nil_append] at h ⊢
            exact h
        · have hn : U.length + V.length + 0 + X.length + 2 ≤ 3000000000 := by
            have := HP.out.2
            simp [br] at this
            omega
          go_wp2_with fail
          refine ((TX.out.1.keepF ((Keep.refl _ _).drewN nq)).byte 40 40 rfl (by have := TX.out.2.2; omega)).mono ?_
          rintro e w3 ⟨rfl, t3, q3⟩
          have qx := ((Keep.refl (fun k => B ≤ k) wr).drewN nq).trans q3
          have hP3 := HX.out.1.keep qx (by omega)
          have N3 := HX.out.2.1.keep qx (by omega)
          have L3 := HX.out.2.2.keep qx (fun k h1 h2 => by omega)
          have kg3 : w3.cell? ⟨g, 0, none⟩ = some (downV b g) := t3.fn.cell (o := 0) rfl
          have H3 := Lib.hid (And.intro t3 (And.intro (HA.out.2.2.2.2.2.2.1.trans (TX.out.2.1.trans qx)) (And.intro hP3 (And.intro N3 L3))))
          clear t3 q3 qx hP3 N3 L3 c0 c7 d0 kg
          go_wp2_with fail
          refine (HA.out.1 b2 (off + k * 8) a1 e1 w3 B b g _ H3.out.2.2.2.1 hb2 H3.out.2.2.2.2 H3.out.1 (by rw [List.length_append]; have := TX.out.2.2; simp only [List.length_singleton]; omega)).mono ?_
          rintro e w4 ⟨rfl, t4, q4⟩
          have H4 := Lib.hid (And.intro t4 (H3.out.2.1.trans q4))
          clear t4 q4 kg3
          go_wp2_with fail
          refine (H4.out.1.byte 41 41 rfl (by rw [List.length_append, List.length_append]; have := TX.out.2.2; simp only [List.length_singleton]; omega)).mono ?_
          rintro e w5 ⟨rfl, t5, q5⟩
          have H5 := Lib.hid (And.intro t5 (H4.out.2.trans q5))
          clear t5 q5
          go_wp2_with fail
          go_roundg (t.subs.length - (k + 1))
          case measure => omega
          case rel =>
            refine ⟨k + 1, _, by go_num, by omega, rfl, ?_, H5.out.2⟩
            rw [HP.out.1]
            have h := H5.out.1
            simp only [br, List.append_assoc, List.cons_append, List.nil_append] at h ⊢
            exact h
    · have hke : k = t.subs.length := by omega
      subst hke
      rw [List.take_length] at hV
      by_cases z : t.kind = 5
      · have z1 : (t.kind == 5) = true := by simp [z]
        obtain ⟨x, lo, hi, et, b0, b1, b2, -, -⟩ := kind5 HD.out.2.2.2.2.2.2.1 z
        have em : t.mn = lo ∧ t.mx = hi := by rw [et]; exact ⟨rfl, rfl⟩
        have HS := Lib.hid (fun W' => sign_any t.mn t.mx (by rw [em.1]; exact b0) (by rw [em.1]; exact b1) (by rw [em.1, em.2]; exact b2) W')
        have hl7 := times_len t.mn t.mx
        have hx := HD.out.2.2.2.2.2.1
        rw [if_pos z, ← hV] at hx
        have hv9 := HD.out.2.2.2.2.2.2.2.1
        rw [← hV] at hv9
        have hbb : (U ++ V).length + (times t.mn t.mx).length ≤ 140737488355328 := by
          rw [List.length_append]
          omega
        have HX := Lib.hid (And.intro hx (And.intro hT (And.intro hq hbb)))
        clear hx hT hq hP et em b0 b1 b2 z hV hl7 hv9 hbb
        go_wp2_with fail
        go_region_with (first
          | (go_at_call 29; refine (HS.out _).mono ?_; rintro e w6 ⟨rfl, q6⟩; have T6 := Lib.hid (And.intro (HX.out.2.1.keepF (((Keep.refl (fun _ => False) wr).drew).trans q6)) (HX.out.2.2.1.drew.trans (q6.mono (fun _ h => h.elim)))); clear q6)
          | (go_at_call 25; refine (T6.out.1.str (times t.mn t.mx) HX.out.2.2.2).mono ?_; rintro e w7 ⟨rfl, t7, q7⟩; have H7 := Lib.hid (And.intro t7 (T6.out.2.trans q7)); clear t7 q7))
        all_goals
          go_wp2_with fail
          go_end0
          exact ⟨rfl, by rw [HX.out.1, ← List.append_assoc]; exact H7.out.1, H7.out.2⟩
      · have z1 : (t.kind == 5) = false := by simp [z]
        have hx := HD.out.2.2.2.2.2.1
        rw [if_neg z, List.append_nil, ← hV] at hx
        have HX := Lib.hid (And.intro hx (And.intro hT hq))
        clear hx hV hT hq hP z
        go_wp2_with fail
        go_end0
        exact ⟨rfl, by rw [HX.out.1]; exact HX.out.2.1, HX.out.2.2⟩
theorem down_all : ∀ (n : Nat) (t : T), SizeOf.sizeOf t < n → ∀ d, RT d t → DownOk t
  | 0, _, h => absurd h (Nat.not_lt_zero _)
  | n + 1, t, h => fun d hR => by
    by_cases hk : t.kind = 2
    · exact down_class t d hR hk
    · exact down_other n (down_all n) t h d hR hk
/-- The blocks of a tree lie in the world. -/
theorem lie_below {w : World} {ok : Nat → Prop} {a : Option Addr} {L : List T} (h : Lie w ok a L) : Lie w (fun k => k < w.heap.size) a L := by
  induction h with
  | nil a => exact .nil a
  | cons bl off L A C hL hb hok hC hc _ ih => exact .cons bl off L A C hL hb hb hC hc ih
end Go.Proofs.YtmeiboaagkoadaaDoor.P08
/- Rules in memory (layer 8): a slice of rules at an address; one of the program's own. -/
namespace Go.Proofs.YtmeiboaagkoadaaDoor.P08
open Go.RowKit Go.Proofs.YtmeiboaagkoadaaDoor.Base Go.Proofs.YtmeiboaagkoadaaDoor.P07
open Go.Proofs.YtmeiboaagkoadaaDoor.Sets (ST)

/-- A rule, plain. -/
structure RU where
  nm : List UInt8
  re : T
/-- Its nine cells. -/
@[reducible] def rcells (x : RU) (a : Option Addr) (c : Nat) : Array Value := #[Bytes.str x.nm, .int .i64 x.re.kind, .int .u64 x.re.set.x0, .int .u64 x.re.set.x1, .int .u64 x.re.set.x2, .int .u64 x.re.set.x3, .int .i64 x.re.mn, .int .i64 x.re.mx, .slice a x.re.subs.length c]
theorem infoU : (Tryd.prog.info? 54).map (fun i => (i.zero, i.size, i.bytes)) = some (some (.agg #[.string ⟨#[]⟩, .int .i64 0, .int .u64 0, .int .u64 0, .int .u64 0, .int .u64 0, .int .i64 0, .int .i64 0, .slice none 0 0]), 9, 96) := by kernel_rfl

/-- The rules L lie at a, in blocks that ok lets by. -/
def RS (w : World) (ok : Nat → Prop) (a : Option Addr) (L : List RU) : Prop :=
  L = [] ∨ ∃ (bl off : Nat) (A : Nat → Option Addr) (C : Nat → Nat), a = some ⟨bl, off, none⟩ ∧ bl < w.heap.size ∧ ok bl ∧ ∀ i x, L[i]? = some x → x.re.subs.length ≤ C i ∧ Lie w ok (A i) x.re.subs ∧ ∀ j v, (rcells x (A i) (C i))[j]? = some v → w.cell? ⟨bl, off + i * 9 + j, none⟩ = some v
theorem RS.keep {S : Nat → Prop} {w w' : World} {ok : Nat → Prop} (q : Keep S w w') (hS : ∀ b, ok b → ¬ S b) {a : Option Addr} {L : List RU} (h : RS w ok a L) : RS w' ok a L := by
  rcases h with h | ⟨bl, off, A, C, rfl, hb, hok, h⟩
  · exact .inl h
  · exact .inr ⟨bl, off, A, C, rfl, Nat.lt_of_lt_of_le hb q.size, hok, fun i x hx => ⟨(h i x hx).1, (h i x hx).2.1.keep q hS, fun j v hv => (q.cell (a := ⟨bl, off + i * 9 + j, none⟩) hb (hS bl hok)).trans ((h i x hx).2.2 j v hv)⟩⟩
theorem RS.keepF {w w' : World} {ok : Nat → Prop} (q : Keep (fun _ => False) w w') {a : Option Addr} {L : List RU} (h : RS w ok a L) : RS w' ok a L := h.keep q (fun _ _ h => h)
theorem RS.mono {w : World} {ok ok' : Nat → Prop} (hk : ∀ b, ok b → ok' b) {a : Option Addr} {L : List RU} (h : RS w ok a L) : RS w ok' a L := by
  rcases h with h | ⟨bl, off, A, C, rfl, hb, hok, h⟩
  · exact .inl h
  · exact .inr ⟨bl, off, A, C, rfl, hb, hk _ hok, fun i x hx => ⟨(h i x hx).1, (h i x hx).2.1.mono hk, (h i x hx).2.2⟩⟩
theorem RS.get {w : World} {ok : Nat → Prop} {a : Option Addr} {L : List RU} (h : RS w ok a L) {i : Nat} {x : RU} (hx : L[i]? = some x) :
    ∃ bl off a' c', a = some ⟨bl, off, none⟩ ∧ bl < w.heap.size ∧ ok bl ∧ x.re.subs.length ≤ c' ∧ Lie w ok a' x.re.subs ∧ ∀ j v, (rcells x a' c')[j]? = some v → w.cell? ⟨bl, off + i * 9 + j, none⟩ = some v := by
  rcases h with rfl | ⟨bl, off, A, C, rfl, hb, hok, h⟩
  · simp at hx
  · exact ⟨bl, off, A i, C i, rfl, hb, hok, (h i x hx).1, (h i x hx).2.1, (h i x hx).2.2⟩
/-- Its cells, one by one. -/
theorem rnine {w : World} {bl o : Nat} {x : RU} {a : Option Addr} {c : Nat} (h : ∀ j v, (rcells x a c)[j]? = some v → w.cell? ⟨bl, o + j, none⟩ = some v) :
    w.cell? ⟨bl, o, none⟩ = some (Bytes.str x.nm) ∧ w.cell? ⟨bl, o + 1, none⟩ = some (.int .i64 x.re.kind) ∧ w.cell? ⟨bl, o + 1 + 1, none⟩ = some (.int .u64 x.re.set.x0) ∧ w.cell? ⟨bl, o + 1 + 2, none⟩ = some (.int .u64 x.re.set.x1) ∧ w.cell? ⟨bl, o + 1 + 3, none⟩ = some (.int .u64 x.re.set.x2) ∧ w.cell? ⟨bl, o + 1 + 4, none⟩ = some (.int .u64 x.re.set.x3) ∧ w.cell? ⟨bl, o + 1 + 5, none⟩ = some (.int .i64 x.re.mn) ∧ w.cell? ⟨bl, o + 1 + 6, none⟩ = some (.int .i64 x.re.mx) ∧ w.cell? ⟨bl, o + 1 + 7, none⟩ = some (.slice a x.re.subs.length c) :=
  ⟨h 0 _ rfl, h 1 _ rfl, h 2 _ rfl, h 3 _ rfl, h 4 _ rfl, h 5 _ rfl, h 6 _ rfl, h 7 _ rfl, h 8 _ rfl⟩

@[reducible] def flatU (X : List (RU × Option Addr × Nat)) : List Value := X.flatMap fun x => (rcells x.1 x.2.1 x.2.2).toList
theorem flatU_length (X : List (RU × Option Addr × Nat)) : (flatU X).length = X.length * 9 := by
  induction X with
  | nil => rfl
  | cons x X ih =>
    unfold flatU at *
    rw [List.flatMap_cons, List.length_append, ih, List.length_cons]
    simp
    omega
theorem flatU_at : ∀ (X : List (RU × Option Addr × Nat)) (i : Nat) (x : RU × Option Addr × Nat), X[i]? = some x → ∀ j v, (rcells x.1 x.2.1 x.2.2)[j]? = some v → (flatU X)[i * 9 + j]? = some v
  | [], i, x, h, _, _, _ => by simp at h
  | y :: X, 0, x, h, j, v, hv => by
    simp at h
    subst h
    have e : flatU (y :: X) = (rcells y.1 y.2.1 y.2.2).toList ++ flatU X := rfl
    have hj : j < 9 := (Array.getElem?_eq_some_iff.1 hv).1
    rw [e, Nat.zero_mul, Nat.zero_add, List.getElem?_append_left (by simpa using hj)]
    simpa using hv
  | y :: X, i + 1, x, h, j, v, hv => by
    have ih := flatU_at X i x (by simpa using h) j v hv
    have e : flatU (y :: X) = (rcells y.1 y.2.1 y.2.2).toList ++ flatU X := rfl
    rw [e, List.getElem?_append_right (by simp; omega), ← ih]
    congr 1
    simp
    omega

/-- The slice v is a list of the rules X, of the program's own, in a block that ok lets by; their parts lie in other blocks. -/
def OUX (w : World) (ok : Nat → Prop) (v : Value) (X : List (RU × Option Addr × Nat)) : Prop :=
  w.ownsRow 0 54 9 v X.length (flatU X) ∧ (∀ g, v.ownBlock = some g → ok g) ∧ ∀ x ∈ X, x.1.re.subs.length ≤ x.2.2 ∧ Lie w (fun k => ok k ∧ v.ownBlock ≠ some k) x.2.1 x.1.re.subs
def OU (w : World) (ok : Nat → Prop) (v : Value) (L : List RU) : Prop := ∃ X, OUX w ok v X ∧ X.map (·.1) = L
theorem OU.nil (w : World) (ok : Nat → Prop) : OU w ok (.slice none 0 0) [] := ⟨[], ⟨⟨rfl, .inl ⟨rfl, rfl⟩⟩, fun g hg => (by cases hg), by simp⟩, rfl⟩
theorem OU.keep {S : Nat → Prop} {w w' : World} {ok : Nat → Prop} {v : Value} {L : List RU} (h : OU w ok v L) (q : Keep S w w') (hS : ∀ b, ok b → ¬ S b) : OU w' ok v L := by
  obtain ⟨X, ⟨h1, h2, h3⟩, h4⟩ := h
  refine ⟨X, ⟨⟨h1.1, ?_⟩, h2, fun x hx => ⟨(h3 x hx).1, (h3 x hx).2.keep q (fun b hb => hS b hb.1)⟩⟩, h4⟩
  rcases h1.2 with h | ⟨g, cap, cur, rfl, hb, hg, r⟩
  · exact .inl h
  · refine .inr ⟨g, cap, cur, rfl, hb, ?_, r⟩
    have : At w g 54 cur := hg
    exact this.keep q (hS g (h2 g rfl))
theorem OU.keepF {w w' : World} {ok : Nat → Prop} {v : Value} {L : List RU} (h : OU w ok v L) (q : Keep (fun _ => False) w w') : OU w' ok v L := h.keep q (fun _ _ h => h)
/-- As an argument. -/
theorem OU.form {w : World} {ok : Nat → Prop} {v : Value} {L : List RU} (h : OU w ok v L) : ∃ a cap, v = .slice a L.length cap ∧ L.length ≤ cap ∧ RS w ok a L := by
  obtain ⟨X, ⟨h1, h2, h3⟩, rfl⟩ := h
  rcases h1.2 with ⟨rfl, h0⟩ | ⟨g, cap, cur, rfl, _, hg, h5, h6, h7, h8⟩
  · have e : X = [] := List.eq_nil_of_length_eq_zero h0
    subst e
    exact ⟨none, 0, rfl, Nat.zero_le _, .inl rfl⟩
  · have ha : At w g 54 cur := hg
    refine ⟨_, cap, by rw [List.length_map], by rw [List.length_map]; exact h5, .inr ⟨g, 0, (fun i => (X[i]?.map (·.2.1)).getD none), (fun i => (X[i]?.map (·.2.2)).getD 0), rfl, ha.lt, h2 g rfl, fun i t ht => ?_⟩⟩
    rw [List.getElem?_map] at ht
    obtain ⟨x, hx, rfl⟩ := Option.map_eq_some_iff.1 ht
    simp only [hx, Option.map_some, Option.getD_some]
    refine ⟨(h3 x (List.mem_of_getElem? hx)).1, (h3 x (List.mem_of_getElem? hx)).2.mono (fun _ h => h.1), fun j v hv => ?_⟩
    have hj : j < 9 := (Array.getElem?_eq_some_iff.1 hv).1
    have hi : i < X.length := (List.getElem?_eq_some_iff.1 hx).1
    refine ha.cell ?_
    have h9 := flatU_at X i x hx j v hv
    have h10 : (cur.toList.take (X.length * 9))[i * 9 + j]? = (flatU X)[i * 9 + j]? := by rw [h8]
    rw [List.getElem?_take_of_lt (by omega), h9] at h10
    rw [Nat.zero_add]
    simpa using h10

/-- append of one rule, laid by the call itself. -/
theorem OU.push {w : World} {ok : Nat → Prop} {v : Value} {L : List RU} (h : OU w ok v L) (t : RU) (a : Option Addr) (c : Nat) (hc : t.re.subs.length ≤ c) (hl : Lie w (fun k => ok k ∧ v.ownBlock ≠ some k) a t.re.subs)
    (hlen : (L.length + 1) * 96 ≤ 140737488355328) (hok : ∀ g, w.heap.size ≤ g → ok g) (ty : TypeId) :
    ∃ v' w', (Builtin.append_ #[37, 37] ty #[v, .slice (some ⟨w.heap.size, 0, none⟩) 1 1]).run Tryd.prog (w.alloc (.cells (rcells t a c) 54)) = .ok v' w' ∧ OU w' ok v' (L ++ [t]) ∧ Keep (fun b => v.ownBlock = some b) w w' ∧ (∀ g, v'.ownBlock = some g → v.ownBlock = some g ∨ w.heap.size ≤ g) := by
  obtain ⟨X, ⟨h1, h2, h3⟩, rfl⟩ := h
  have qa := (Keep.refl (fun _ => False) w).alloc (.cells (rcells t a c) 54)
  have ha := At.new w (rcells t a c) 54
  have hown : (w.alloc (.cells (rcells t a c) 54)).ownsRow 0 54 9 v X.length (flatU X) := by
    refine ⟨h1.1, ?_⟩
    rcases h1.2 with h | ⟨g, cap, cur, rfl, hb, hg, r⟩
    · exact .inl h
    · refine .inr ⟨g, cap, cur, rfl, hb, ?_, r⟩
      have : At w g 54 cur := hg
      exact this.keep qa (fun h => h)
  obtain ⟨i0, hi0, hz0, hz1, hz2⟩ := info_parts infoU
  rw [List.length_map] at hlen
  obtain ⟨v', w', hrun, g2, g3, _, g5⟩ := run_append_own_at (P := Tryd.prog) (w.alloc (.cells (rcells t a c) 54)) 0 37 ty 54 i0 (.agg #[.string ⟨#[]⟩, .int .i64 0, .int .u64 0, .int .u64 0, .int .u64 0, .int .u64 0, .int .i64 0, .int .i64 0, .slice none 0 0]) 9 96 Tryd.underlying37 hi0 hz0 hz1 hz2 rfl (by omega) v X.length (flatU X) hown ⟨w.heap.size, 0, none⟩ 1 1 (rcells t a c).toList rfl
    (fun j u hu => by
      have := ha.cell (o := j) (v := u) (by simpa using hu)
      have e : (⟨w.heap.size, 0, none⟩ : Addr).add j = ⟨w.heap.size, j, none⟩ := by
        unfold Addr.add
        split
        · rename_i hz
          rw [hz]
        · simp
      rw [e]
      exact this)
    (by intro u hu; simp at hu; rcases hu with rfl | rfl | rfl | rfl | rfl | rfl | rfl | rfl | rfl <;> rfl) (by simp only [maxLen]; omega) (by omega) (Nat.zero_le _)
  have q : Keep (fun b => v.ownBlock = some b) w w' := (qa.mono (fun _ h => h.elim)).trans (nkeep_grown g3)
  have hbl : ∀ g, v'.ownBlock = some g → v.ownBlock = some g ∨ w.heap.size ≤ g := fun g hg => by
    rcases g5 with g5 | g5
    · exact .inl (by rw [← g5]; exact hg)
    · rw [g5] at hg
      injection hg with hg
      simp at hg
      exact .inr (by omega)
  have hlie : ∀ {a : Option Addr} {M : List T}, Lie w (fun k => ok k ∧ v.ownBlock ≠ some k) a M → Lie w' (fun k => ok k ∧ v'.ownBlock ≠ some k) a M := fun {a M} h => by
    have h1 : Lie w (fun k => (ok k ∧ v.ownBlock ≠ some k) ∧ k < w.heap.size) a M := by
      induction h with
      | nil a => exact .nil a
      | cons bl off L A C hL hb hok hC hc _ ih => exact .cons bl off L A C hL hb ⟨hok, hb⟩ hC hc ih
    refine (h1.keep q (fun b hb e => hb.1.2 e)).mono (fun k hk => ⟨hk.1.1, fun e => ?_⟩)
    rcases hbl k e with h | h
    · exact hk.1.2 h
    · have := hk.2
      omega
  refine ⟨v', w', hrun, ⟨X ++ [(t, a, c)], ⟨?_, fun g hg => ?_, fun x hx => ?_⟩, by simp⟩, q, hbl⟩
  · rw [List.length_append]
    have e : flatU (X ++ [(t, a, c)]) = flatU X ++ (rcells t a c).toList := by
      unfold flatU
      rw [List.flatMap_append]
      simp
    rw [e]
    exact g2
  · rcases hbl g hg with h | h
    · exact h2 g h
    · exact hok g h
  · rcases List.mem_append.1 hx with hx | hx
    · exact ⟨(h3 x hx).1, hlie (h3 x hx).2⟩
    · rw [List.mem_singleton.1 hx]
      exact ⟨hc, hlie hl⟩
end Go.Proofs.YtmeiboaagkoadaaDoor.P08
