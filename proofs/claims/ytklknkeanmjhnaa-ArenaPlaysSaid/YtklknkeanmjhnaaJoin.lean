/- What join does to a node of the tree of free places: the whole as its halves are. -/
import Derived.Test.YtklknkeanmjhnaaStretch
import Derived.Laws.Cover1
namespace Go.Proofs.Ytklknkeanmjhnaa.Stretch
open Go.RowKit Go.Proofs.Ytklknkeanmjhnaa.Base

/-- The whole, as its halves are. -/
def joinF (L R : NV) : Int := if L.front = L.size then L.front + R.front else L.front
def joinB (L R : NV) : Int := if R.back = R.size then R.back + L.back else R.back
def joinM (L R : NV) : Int := max L.most (max R.most (L.back + R.front))
def NV.join (n : Int) (bl br : Nat) (L R : NV) : NV :=
  ⟨n, joinF L R, joinB L R, joinM L R, if joinM L R = 0 ∨ joinM L R = n then none else some bl, if joinM L R = 0 ∨ joinM L R = n then none else some br⟩

/-- Numbers that are small. -/
structure NV.Small (s : NV) : Prop where
  s0 : 0 ≤ s.size
  s1 : s.size ≤ 1048576
  f0 : 0 ≤ s.front
  f1 : s.front ≤ 1048576
  b0 : 0 ≤ s.back
  b1 : s.back ≤ 1048576
  m0 : 0 ≤ s.most
  m1 : s.most ≤ 1048576

def Mid (b o : Nat) (w : World) (s : NV) (w' : World) : Prop := Nd w' b o s ∧ Sub b o w w' ∧ Keep (· = b) w w' ∧ w'.heap.size = w.heap.size

theorem Mid.drewN {b o : Nat} {w : World} {s : NV} {w' : World} (h : Mid b o w s w') (n : Nat) : Mid b o w s (w'.drewN n) := ⟨h.1, h.2.1, h.2.2.1.drewN n, h.2.2.2⟩
theorem Mid.drew {b o : Nat} {w : World} {s : NV} {w' : World} (h : Mid b o w s w') : Mid b o w s w'.drew := ⟨h.1, h.2.1, h.2.2.1.drew, h.2.2.2⟩
theorem Mid.front {b o : Nat} {w : World} {s : NV} {w' : World} (h : Mid b o w s w') (u : Int) : Mid b o w { s with front := u } (w'.setCell ⟨b, o + 1, none⟩ (.int .i64 u)) :=
  ⟨h.1.setFront u, h.2.1.set (by omega) (by omega) _, h.2.2.1.setCell (fun _ => rfl) _, by simpa using h.2.2.2⟩
theorem Mid.back {b o : Nat} {w : World} {s : NV} {w' : World} (h : Mid b o w s w') (u : Int) : Mid b o w { s with back := u } (w'.setCell ⟨b, o + 2, none⟩ (.int .i64 u)) :=
  ⟨h.1.setBack u, h.2.1.set (by omega) (by omega) _, h.2.2.1.setCell (fun _ => rfl) _, by simpa using h.2.2.2⟩
theorem Mid.most {b o : Nat} {w : World} {s : NV} {w' : World} (h : Mid b o w s w') (u : Int) : Mid b o w { s with most := u } (w'.setCell ⟨b, o + 3, none⟩ (.int .i64 u)) :=
  ⟨h.1.setMost u, h.2.1.set (by omega) (by omega) _, h.2.2.1.setCell (fun _ => rfl) _, by simpa using h.2.2.2⟩
theorem Mid.left {b o : Nat} {w : World} {s : NV} {w' : World} (h : Mid b o w s w') (u : Option Nat) : Mid b o w { s with left := u } (w'.setCell ⟨b, o + 4, none⟩ (kid u)) :=
  ⟨h.1.setLeft u, h.2.1.set (by omega) (by omega) _, h.2.2.1.setCell (fun _ => rfl) _, by simpa using h.2.2.2⟩
theorem Mid.right {b o : Nat} {w : World} {s : NV} {w' : World} (h : Mid b o w s w') (u : Option Nat) : Mid b o w { s with right := u } (w'.setCell ⟨b, o + 5, none⟩ (kid u)) :=
  ⟨h.1.setRight u, h.2.1.set (by omega) (by omega) _, h.2.2.1.setCell (fun _ => rfl) _, by simpa using h.2.2.2⟩

theorem max3 (x y z : Int) (w : World) (ts : Array TypeId) (t : TypeId) : (Builtin.max_ ts t #[.int .i64 x, .int .i64 y, .int .i64 z]).run Try.prog w = .ok (.int .i64 (max x (max y z))) w := by
  rw [run_max_int3]
  have e : (if z > (if y > x then y else x) then z else (if y > x then y else x)) = max x (max y z) := by split <;> split <;> omega
  rw [e]

set_option maxRecDepth 100000 in
set_option maxHeartbeats 1000000 in
theorem join_any (b o bl br : Nat) (n F0 B0 M0 : Int) (L R : NV) (w : World) (h : Nd w b o ⟨n, F0, B0, M0, some bl, some br⟩) (hl : Nd w bl 0 L) (hr : Nd w br 0 R) (nl : bl ≠ b) (nr : br ≠ b) (sl : L.Small) (sr : R.Small) :
    Calls Try.prog 65 #[np b o] w fun e w' => e = .returned (.tuple #[]) ∧ Mid b o w (NV.join n bl br L R) w' := by
  obtain ⟨ls, lf, lb, lm, ll, lr⟩ := L
  obtain ⟨rs, rf, rb, rm, rl, rr⟩ := R
  obtain ⟨ls0, ls1, lf0, lf1, lb0, lb1, lm0, lm1⟩ := sl
  obtain ⟨rs0, rs1, rf0, rf1, rb0, rb1, rm0, rm1⟩ := sr
  simp only at *
  obtain ⟨k0, k1, k2, k3, k4, k5, fz⟩ := h.cells
  obtain ⟨l0, l1, l2, l3, l4, l5, lz⟩ := hl.cells
  obtain ⟨r0, r1, r2, r3, r4, r5, rz⟩ := hr.cells
  simp only [Nat.zero_add, kid, Option.map_some] at k4 k5 l0 l1 l2 l3 r0 r1 r2 r3
  have f1 := fz (o + 1)
  have f2 := fz (o + 2)
  have hM := Lib.hid ((((show Mid b o w _ w from ⟨h, Sub.refl b o w, Keep.refl _ w, rfl⟩).front lf).back rb).drew.drew)
  have hL : ∀ W s, Mid b o w s W → Nd W bl 0 ⟨ls, lf, lb, lm, ll, lr⟩ ∧ Nd W br 0 ⟨rs, rf, rb, rm, rl, rr⟩ := fun W s m => ⟨hl.keep m.2.2.1 nl, hr.keep m.2.2.1 nr⟩
  have HL := Lib.hid hL
  clear l4 l5 r4 r5 lz rz k0 k3 h fz hL hl hr
  go_enter Try.func65, Try.ntmps65
  go_wp2_with fail
  go_region
  go_upto_region 1 with fail
  go_region
  have hM := hM.out
  clear k1 k2 k4 k5 f1 f2 l0 l1 l2 l3 r0 r1 r2 r3
  generalize ((w.setCell ⟨b, o + 1, none⟩ (.int .i64 lf)).setCell ⟨b, o + 2, none⟩ (.int .i64 rb)).drew.drew = W1 at *
  obtain ⟨gl, gr⟩ := HL.out _ _ hM
  obtain ⟨l0, l1, l2, l3, l4, l5, lz⟩ := gl.cells
  obtain ⟨r0, r1, r2, r3, r4, r5, rz⟩ := gr.cells
  obtain ⟨k0, k1, k2, k3, k4, k5, fz⟩ := hM.1.cells
  simp only [Nat.zero_add, kid, Option.map_some] at k0 k1 k2 k3 k4 k5 l0 l1 l2 l3 r0 r1 r2 r3
  have f1 := fz (o + 1)
  clear l4 l5 r4 r5 lz rz fz gl gr
  go_upto_region 2 with fail
  go_quiet (fail)
  have hM := hM.drewN nq
  go_upto_if 34 with fail
  go_cut [] from 4 (fun wx => Mid b o w ⟨n, joinF ⟨ls, lf, lb, lm, ll, lr⟩ ⟨rs, rf, rb, rm, rl, rr⟩, rb, M0, some bl, some br⟩ wx)
  case first =>
    have HM := Lib.hid hM
    clear hM
    by_cases he : lf = ls
    · have hb : (lf == ls) = true := by simp [he]
      have HE := Lib.hid he
      clear he
      go_wp2_with fail
      go_region
      all_goals
        go_wp2_with fail
        go_meet
        case rel =>
          rw [show joinF ⟨ls, lf, lb, lm, ll, lr⟩ ⟨rs, rf, rb, rm, rl, rr⟩ = lf + rf from if_pos HE.out]
          exact (HM.out.front (lf + rf)).drew
    · have hb : (lf == ls) = false := by simp [he]
      have HE := Lib.hid he
      clear he
      go_wp2_with fail
      go_meet
      case rel =>
        rw [show joinF ⟨ls, lf, lb, lm, ll, lr⟩ ⟨rs, rf, rb, rm, rl, rr⟩ = lf from if_neg HE.out]
        exact HM.out
  case rest =>
    have hF0 : 0 ≤ joinF ⟨ls, lf, lb, lm, ll, lr⟩ ⟨rs, rf, rb, rm, rl, rr⟩ ∧ joinF ⟨ls, lf, lb, lm, ll, lr⟩ ⟨rs, rf, rb, rm, rl, rr⟩ ≤ 2097152 := by unfold joinF; simp only; split <;> omega
    generalize eF : joinF ⟨ls, lf, lb, lm, ll, lr⟩ ⟨rs, rf, rb, rm, rl, rr⟩ = JF at *
    have eF := Lib.hid eF
    clear hM k0 k1 k2 k3 k4 k5 l0 l1 l2 l3 r0 r1 r2 r3 f1
    obtain ⟨gl, gr⟩ := HL.out _ _ hcut
    obtain ⟨l0, l1, l2, l3, l4, l5, lz⟩ := gl.cells
    obtain ⟨r0, r1, r2, r3, r4, r5, rz⟩ := gr.cells
    obtain ⟨k0, k1, k2, k3, k4, k5, fz⟩ := hcut.1.cells
    simp only [Nat.zero_add, kid, Option.map_some] at k0 k1 k2 k3 k4 k5 l0 l1 l2 l3 r0 r1 r2 r3
    have f2 := fz (o + 2)
    clear l4 l5 r4 r5 lz rz fz gl gr
    go_upto_region 4 with fail
    go_quiet (fail)
    have hM := hcut.drewN nq
    clear hcut
    go_upto_if 54 with fail
    go_cut [] from 4 (fun wx => Mid b o w ⟨n, JF, joinB ⟨ls, lf, lb, lm, ll, lr⟩ ⟨rs, rf, rb, rm, rl, rr⟩, M0, some bl, some br⟩ wx)
    case first =>
      have HM := Lib.hid hM
      clear hM
      by_cases he : rb = rs
      · have hb : (rb == rs) = true := by simp [he]
        have HE := Lib.hid he
        clear he
        go_wp2_with fail
        go_region
        all_goals
          go_wp2_with fail
          go_meet
          case rel =>
            rw [show joinB ⟨ls, lf, lb, lm, ll, lr⟩ ⟨rs, rf, rb, rm, rl, rr⟩ = rb + lb from if_pos HE.out]
            exact (HM.out.back (rb + lb)).drew
      · have hb : (rb == rs) = false := by simp [he]
        have HE := Lib.hid he
        clear he
        go_wp2_with fail
        go_meet
        case rel =>
          rw [show joinB ⟨ls, lf, lb, lm, ll, lr⟩ ⟨rs, rf, rb, rm, rl, rr⟩ = rb from if_neg HE.out]
          exact HM.out
    case rest =>
      have hB0 : 0 ≤ joinB ⟨ls, lf, lb, lm, ll, lr⟩ ⟨rs, rf, rb, rm, rl, rr⟩ ∧ joinB ⟨ls, lf, lb, lm, ll, lr⟩ ⟨rs, rf, rb, rm, rl, rr⟩ ≤ 2097152 := by unfold joinB; simp only; split <;> omega
      generalize eB : joinB ⟨ls, lf, lb, lm, ll, lr⟩ ⟨rs, rf, rb, rm, rl, rr⟩ = JB at *
      have eB := Lib.hid eB
      clear hM k0 k1 k2 k3 k4 k5 l0 l1 l2 l3 r0 r1 r2 r3 f2
      obtain ⟨gl, gr⟩ := HL.out _ _ hcut
      obtain ⟨l0, l1, l2, l3, l4, l5, lz⟩ := gl.cells
      obtain ⟨r0, r1, r2, r3, r4, r5, rz⟩ := gr.cells
      obtain ⟨k0, k1, k2, k3, k4, k5, fz⟩ := hcut.1.cells
      simp only [Nat.zero_add, kid, Option.map_some] at k0 k1 k2 k3 k4 k5 l0 l1 l2 l3 r0 r1 r2 r3
      have f3 := fz (o + 3)
      clear l4 l5 r4 r5 lz rz fz gl gr
      have HM := Lib.hid hcut
      clear hcut
      go_upto_region 6 with fail
      have hmx := max3 lm rm (lb + rf)
      go_region
      all_goals
        have HJ := Lib.hid (show NV.join n bl br ⟨ls, lf, lb, lm, ll, lr⟩ ⟨rs, rf, rb, rm, rl, rr⟩ = ⟨n, JF, JB, max lm (max rm (lb + rf)), if max lm (max rm (lb + rf)) = 0 ∨ max lm (max rm (lb + rf)) = n then none else some bl, if max lm (max rm (lb + rf)) = 0 ∨ max lm (max rm (lb + rf)) = n then none else some br⟩ from by rw [← eF.out, ← eB.out]; rfl)
        have hM := (HM.out.most (max lm (max rm (lb + rf)))).drew
        clear HM hmx k0 k1 k2 k3 k4 k5 l0 l1 l2 l3 r0 r1 r2 r3 f3 eF eB
        generalize (wc.setCell ⟨b, o + 3, none⟩ (.int .i64 (max lm (max rm (lb + rf))))).drew = W3 at *
        generalize max lm (max rm (lb + rf)) = JM at *
        obtain ⟨k0, k1, k2, k3, k4, k5, fz⟩ := hM.1.cells
        simp only [kid, Option.map_some] at k0 k1 k2 k3 k4 k5
        have f4 := fz (o + 4)
        have f5 := fz (o + 5)
        clear fz
        go_upto_region 7 with fail
        by_cases h0 : JM = 0
        · have hb : (JM == 0) = true := by simp [h0]
          have H0 := Lib.hid h0
          have HM := Lib.hid hM
          clear hM h0
          go_quiet (fail)
          go_wp2
          go_end0
          rw [HJ.out, if_pos (Or.inl H0.out), if_pos (Or.inl H0.out)]
          exact ⟨rfl, ((HM.out.drewN _).left none).right none⟩
        · have hb : (JM == 0) = false := by simp [h0]
          by_cases h1 : JM = n
          · have hb1 : (JM == n) = true := by simp [h1]
            have H0 := Lib.hid h1
            have HM := Lib.hid hM
            clear hM h0 h1
            go_quiet (fail)
            go_wp2
            go_end0
            rw [HJ.out, if_pos (Or.inr H0.out), if_pos (Or.inr H0.out)]
            exact ⟨rfl, ((HM.out.drewN _).left none).right none⟩
          · have hb1 : (JM == n) = false := by simp [h1]
            have H0 := Lib.hid (show ¬ (JM = 0 ∨ JM = n) from fun h => h.elim h0 h1)
            have HM := Lib.hid hM
            clear hM h0 h1
            go_quiet (fail)
            go_wp2
            go_end0
            rw [HJ.out, if_neg H0.out, if_neg H0.out]
            exact ⟨rfl, HM.out.drewN _⟩

end Go.Proofs.Ytklknkeanmjhnaa.Stretch
