/- The document's fixed answers of layer 2 hold: 'awake' answers true and turns nothing that was there. -/
import Derived.Test.YtklknkeanmjhnaaOwn
namespace Go.Proofs.Ytklknkeanmjhnaa.Law02
open Go.RowKit Go.Proofs.Ytklknkeanmjhnaa.Base Go.Proofs.Ytklknkeanmjhnaa.Stretch Go.Proofs.Ytklknkeanmjhnaa.Regs Go.Proofs.Ytklknkeanmjhnaa.Arena Go.Proofs.Ytklknkeanmjhnaa.Meter

def s0 : AS := ⟨10, [], 0, fun _ => 0⟩
def m0 : MS := ⟨0, 0, 9, 0, 0, 0⟩
def s1 : AS := ⟨10, [⟨1, 0, 4⟩], 1, fun _ => 0⟩
def m1 : MS := ⟨4, 4, 9, 0, 0, 0⟩
def s2 : AS := ⟨10, [⟨1, 0, 4⟩, ⟨2, 4, 4⟩], 2, fun _ => 0⟩
def m2 : MS := ⟨8, 8, 9, 0, 0, 0⟩
def s3 : AS := s2.set 2 3 7
def s4 : AS := s3.del ⟨1, 0, 4⟩
def m4 : MS := ⟨4, 8, 9, 0, 0, 0⟩
def s5 : AS := s4.add 0 3
def m5 : MS := ⟨7, 8, 9, 0, 0, 0⟩

theorem new10 : AS.new 10 = s0 := rfl
theorem a1 (mb : Nat) : allocV s0 (some mb) m0 4 = ((1, 0), s1, m1) := rfl
theorem a2 (mb : Nat) : allocV s1 (some mb) m1 4 = ((2, 0), s2, m2) := rfl
theorem p1 : (placeV s2 2 3).2 = 0 := rfl
theorem g1 : getV s3 2 3 = (7, 0) := rfl
theorem f1 (mb : Nat) : freeV s3 (some mb) m2 1 = (0, s4, m4) := rfl
theorem a3 (mb : Nat) : allocV s4 (some mb) m4 5 = ((0, 3), s4, m4) := rfl
theorem a4 (mb : Nat) : allocV s4 (some mb) m4 3 = ((3, 0), s5, m5) := rfl
theorem a5 (mb : Nat) : allocV s5 (some mb) m5 3 = ((0, 3), s5, m5) := rfl
theorem g2 : getV s5 3 0 = (0, 0) := rfl
theorem b1 : (match Regs.look s5.L 3 with | some r => (r.base : Int) | none => -1) = 0 := rfl
theorem l1 : (match Regs.look s5.L 2 with | some r => (r.n : Int) | none => -1) = 4 := rfl
theorem l2 : (match Regs.look s5.L 1 with | some r => (r.n : Int) | none => -1) = -1 := rfl
theorem e1 : (s5.size - s5.used : Int) = 3 := rfl
theorem p2 : (placeV s5 2 4).2 = 2 := rfl

theorem last_ok {s : AS} {k : Nat} (h : s.last = k) (hk : k < 4611686018427387904 := by decide) : s.last < 4611686018427387904 := by omega

set_option maxRecDepth 100000 in
set_option maxHeartbeats 2000000 in
theorem awake_any (w : World) : Calls Try.prog 13 #[] w fun e w' => e = .returned (.bool true) ∧ Keep (fun _ => False) w w' := by
  go_enter Try.func13, Try.ntmps13
  go_wp2_with fail
  refine (new_any 9 0 _).mono ?_
  rintro e w1 ⟨mb, rfl, hb, h0, q0⟩
  have hm : MO w1 (some mb) m0 := ⟨h0, MS.new_ok 9 0⟩
  have h5 : ∀ k, some mb = some k → w.heap.size ≤ k ∧ k < w1.heap.size := fun k hk => by
    cases hk
    exact ⟨hb, h0.lt⟩
  have hN := own_new w (some mb) 10 m0 s0 w1 new10 q0 hm h5
  simp only [kid, Option.map_some] at hN
  clear hm h5 h0 q0 hb
  go_wp2_with fail
  refine hN.mono ?_
  rintro e w2 ⟨b, rfl, H0⟩
  clear hN
  go_wp2_with fail
  refine (own_alloc w b (some mb) s0 m0 4 1 0 s1 m1 _ (a1 mb) H0 (last_ok rfl)).mono ?_
  rintro e v3 ⟨rfl, H1⟩
  clear H0
  go_wp2_with fail
  refine (own_alloc w b (some mb) s1 m1 4 2 0 s2 m2 _ (a2 mb) H1 (last_ok rfl)).mono ?_
  rintro e v4 ⟨rfl, H2⟩
  clear H1
  go_wp2_with fail
  refine (own_set w b (some mb) s2 m2 2 3 7 0 s3 _ p1 rfl H2 (by decide) (by decide)).mono ?_
  rintro e v5 ⟨rfl, H3⟩
  clear H2
  go_wp2_with fail
  refine (own_get w b (some mb) s3 m2 2 3 7 0 _ g1 H3 (by decide) (by decide)).mono ?_
  rintro e v6 ⟨rfl, H4⟩
  clear H3
  go_wp2_with fail
  refine (own_free w b (some mb) s3 m2 1 0 s4 m4 _ (f1 mb) H4 (by decide) (by decide)).mono ?_
  rintro e v7 ⟨rfl, H5⟩
  clear H4
  go_wp2_with fail
  refine (own_alloc w b (some mb) s4 m4 5 0 3 s4 m4 _ (a3 mb) H5 (last_ok rfl)).mono ?_
  rintro e v8 ⟨rfl, H6⟩
  clear H5
  go_wp2_with fail
  refine (own_alloc w b (some mb) s4 m4 3 3 0 s5 m5 _ (a4 mb) H6 (last_ok rfl)).mono ?_
  rintro e v9 ⟨rfl, H7⟩
  clear H6
  go_wp2_with fail
  refine (own_alloc w b (some mb) s5 m5 3 0 3 s5 m5 _ (a5 mb) H7 (last_ok rfl)).mono ?_
  rintro e v10 ⟨rfl, H8⟩
  clear H7
  go_wp2_with fail
  refine (own_get w b (some mb) s5 m5 3 0 0 0 _ g2 H8 (by decide) (by decide)).mono ?_
  rintro e v11 ⟨rfl, H9⟩
  clear H8
  go_wp2_with fail
  refine (own_base w b (some mb) s5 m5 3 0 _ b1 H9 (by decide) (by decide)).mono ?_
  rintro e v12 ⟨rfl, H10⟩
  clear H9
  go_wp2_with fail
  refine (own_len w b (some mb) s5 m5 2 4 _ l1 H10 (by decide) (by decide)).mono ?_
  rintro e v13 ⟨rfl, H11⟩
  clear H10
  go_wp2_with fail
  refine (own_len w b (some mb) s5 m5 1 (-1) _ l2 H11 (by decide) (by decide)).mono ?_
  rintro e v14 ⟨rfl, H12⟩
  clear H11
  go_wp2_with fail
  refine (own_left w b (some mb) s5 m5 3 _ e1 H12).mono ?_
  rintro e vl ⟨rfl, rfl⟩
  go_wp2_with fail
  refine (own_clean w b (some mb) s5 m5 _ H12).mono ?_
  rintro e vc ⟨rfl, HC⟩
  clear H12
  go_wp2_with fail
  refine (own_set w b (some mb) s5 m5 2 4 1 2 _ _ p2 rfl HC (by decide) (by decide)).mono ?_
  rintro e vs ⟨rfl, HS⟩
  have q := HS.2.2.2
  clear HC HS
  go_wp2
  go_ret
  exact ⟨rfl, q⟩

end Go.Proofs.Ytklknkeanmjhnaa.Law02
