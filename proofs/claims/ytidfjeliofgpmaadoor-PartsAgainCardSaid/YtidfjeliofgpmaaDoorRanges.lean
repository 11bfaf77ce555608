/- Contract of bytes256's Ranges. -/
import Derived.Test.YtidfjeliofgpmaaDoorPL
namespace Go.Proofs.YtidfjeliofgpmaaDoor.Bytes
open Go.RowKit Go.Proofs.YtidfjeliofgpmaaDoor.Base Go.Proofs.YtidfjeliofgpmaaDoor.Sets Go.Proofs.YtidfjeliofgpmaaDoor.PL

/-- What Ranges answers. -/
def IsRanges (L : List (Nat × Nat)) (w : World) (e : Ending) (w' : World) : Prop := ∃ v, e = .returned v ∧ PL w' v L ∧ (∀ g, v.ownBlock = some g → w.heap.size ≤ g) ∧ Keep (fun _ => False) w w'

/-- One round's worth. -/
theorem rgs_round {s : ST} (hs : s.Ok) {n m : Nat} (hlt : n < 256) (hn : s.has n = true) (h0 : n = 0 ∨ s.has (n - 1) = false) (hm : Nx s.not.has n m) :
    n < m ∧ rgs s.has m = rgs s.has n ++ [(n, m - 1)] ∧ ∀ n', Nx s.has m n' → m ≤ n' ∧ n' ≤ 256 ∧ rgs s.has n' = rgs s.has m ∧ (n' < 256 → s.has n' = true ∧ (n' = 0 ∨ s.has (n' - 1) = false)) := by
  have hmn : n < m := by
    refine Nat.lt_of_le_of_ne hm.lo fun e => ?_
    subst e
    have := hm.at' hlt
    rw [ST.has_not hs _ hlt, hn] at this
    cases this
  have hmh := hm.hi
  have hgap : ∀ b, n ≤ b → b < m → s.has b = true := fun b h1 h2 => by
    have := hm.gap b h1 h2
    rw [ST.has_not hs _ (by omega)] at this
    simpa using this
  refine ⟨hmn, ?_, fun n' k => ?_⟩
  · have := rgs_run h0 (m - 1 - n) (fun b h1 h2 => hgap b h1 (by omega))
    rw [show n + (m - 1 - n) + 1 = m from by omega, show n + (m - 1 - n) = m - 1 from by omega] at this
    exact this
  · have hk := k.lo
    refine ⟨hk, k.hi, ?_, fun hlt' => ⟨k.at' hlt', .inr ?_⟩⟩
    · have := rgs_gap (p := s.has) (a := m) (n' - m) (fun b h1 h2 => k.gap b h1 (by omega))
      rwa [show m + (n' - m) = n' from by omega] at this
    · rcases Nat.eq_or_lt_of_le hk with rfl | hl
      · have := hm.at' hlt'
        rw [ST.has_not hs _ hlt'] at this
        have h1 : s.has m = false := by simpa using this
        have h2 := k.at' hlt'
        rw [h1] at h2
        cases h2
      · exact k.gap _ (by omega) (by omega)

set_option maxRecDepth 100000 in
theorem ranges_any (s : ST) (hs : s.Ok) (w : World) (hT : Tab w) : Calls Tryd.prog 36 #[val s] w (IsRanges (rgs s.has 256) w) := by
  go_enter Tryd.func36, Tryd.ntmps36
  go_wp2_with fail
  have a1 := At.new w (cells s) 35
  have q1 := (Keep.refl (fun _ => False) w).alloc (.cells (cells s) 35)
  have A1 := Lib.hid (And.intro a1 q1)
  clear a1 q1
  generalize (w.alloc (.cells (cells s) 35)) = W at *
  obtain ⟨⟨c0, c1, c2, c3⟩, -⟩ := cells4 A1.out.1
  go_wp2_with fail
  refine (from_any s hs 0 (by decide) W (hT.keep A1.out.2)).mono ?_
  rintro e w1 ⟨rfl, q⟩
  have hn := nxt_nx s.has 0 (by decide)
  have hg : rgs s.has (nxt s.has 0) = [] := by
    have := rgs_gap (p := s.has) (a := 0) (nxt s.has 0) (fun b h1 h2 => hn.gap b h1 (by omega))
    rwa [Nat.zero_add] at this
  have h00 : nxt s.has 0 < 256 → s.has (nxt s.has 0) = true ∧ (nxt s.has 0 = 0 ∨ s.has (nxt s.has 0 - 1) = false) := fun hlt => ⟨hn.at' hlt, by
    rcases Nat.eq_zero_or_pos (nxt s.has 0) with h | h
    · exact .inl h
    · exact .inr (hn.gap _ (by omega) (by omega))⟩
  have hle := hn.hi
  have HQ := Lib.hid (And.intro (A1.out.1.keep q (fun h => h)) (And.intro (A1.out.2.trans q) (And.intro hT (And.intro hg (And.intro h00 hle)))))
  clear q hT hn A1 c0 c1 c2 c3 hg h00 hle
  generalize nxt s.has 0 = n0 at *
  go_wp2_with fail
  go_loopg [3, 4] (256 - n0) (fun gg v lo wr => ∃ n : Nat, lo = .int .i64 n ∧ n + gg = 256 ∧ PL wr v (rgs s.has n) ∧ (∀ g, v.ownBlock = some g → w.heap.size ≤ g ∧ g ≠ w.heap.size) ∧ At wr w.heap.size 35 (cells s) ∧ Keep (fun _ => False) w wr ∧ (n < 256 → s.has n = true ∧ (n = 0 ∨ s.has (n - 1) = false)))
  case atStart =>
    obtain ⟨h1, h2, -, h3, h4, h5⟩ := HQ.out
    exact ⟨n0, rfl, by omega, by rw [h3]; exact PL.nil _, fun g hg => (by cases hg), h1, h2, h4⟩
  case round =>
    obtain ⟨n, rfl, hk, hp, hb, ha, hq, hn⟩ := hrel
    by_cases hlt : n < 256
    · have hlt' : (n : Int) < 256 := by omega
      obtain ⟨⟨c0, c1, c2, c3⟩, -⟩ := cells4 ha
      have H := Lib.hid (And.intro hk (And.intro hp (And.intro hb (And.intro ha (And.intro hq (hn hlt))))))
      clear hk hp hb ha hq hn
      go_wp2_with fail
      refine (not_any s hs wr).mono ?_
      rintro e w2 ⟨rfl, q2⟩
      go_wp2_with fail
      refine (from_any s.not (ST.not_ok s) n (by omega) w2 ((HQ.out.2.2.1.keep H.out.2.2.2.2.1).keep q2)).mono ?_
      rintro e w3 ⟨rfl, q3⟩
      have hm := nxt_nx s.not.has n (by omega)
      generalize nxt s.not.has n = m at *
      obtain ⟨hk, hp, hb, ha, hq, hn, h0⟩ := H.out
      have hnm := rgs_round hs hlt hn h0 hm
      have hmle := hm.hi
      obtain ⟨t, rfl⟩ : ∃ t, m = t + 1 := ⟨m - 1, by have := hnm.1; omega⟩
      have q3' := q2.trans q3
      have hq3 := hq.trans q3'
      have ha3 := ha.keep q3' (fun h => h)
      have hp3 := hp.keep q3' (fun _ _ h => h)
      have hT3 := HQ.out.2.2.1.keep hq3
      obtain ⟨v', w4, hrun, hp4, q4, hb4⟩ := hp3.push (n, t) (by have := rgs_le s.has n; omega) 62
      dsimp only at hrun
      have ha4 := ha3.keep q4 (fun h => (hb _ h).2 rfl)
      have hq4 : Keep (fun _ => False) w w4 := hq3.next q4 (fun i hi hl => by have := (hb i hi).1; omega)
      have hbb : ∀ g, v'.ownBlock = some g → w.heap.size ≤ g ∧ g ≠ w.heap.size := fun g hg => by
        rcases hb4 g hg with h | h
        · exact hb g h
        · have := ha3.lt
          omega
      obtain ⟨⟨d0, d1, d2, d3⟩, -⟩ := cells4 ha4
      have ht : t < 256 := by omega
      have H4 := Lib.hid (And.intro hk (And.intro hp4 (And.intro hbb (And.intro ha4 (And.intro hq4 (And.intro hnm (hT3.keep ((Keep.refl _ _))))))))) 
      clear hk hp hb ha hq hn h0 hnm q3' hq3 ha3 hp3 hT3 hp4 q4 hb4 ha4 hq4 hbb H q2 q3 hm
      go_wp2_with (at_builtin; refine Lib.wpList_append_run _ rfl _ _ _ _ rfl _ _ rfl rfl _ _ hrun ?_)
      clear hrun
      go_wp2_with fail
      have hfr := from_any s hs (t + 1) (by omega) w4 (HQ.out.2.2.1.keep H4.out.2.2.2.2.1)
      rw [show ((t + 1 : Nat) : Int) = (t : Int) + 1 from rfl] at hfr
      refine hfr.mono ?_
      rintro e w5 ⟨rfl, q5⟩
      have hx := nxt_nx s.has (t + 1) (by omega)
      generalize nxt s.has (t + 1) = n' at *
      have H5 := Lib.hid (And.intro hx q5)
      clear hx q5
      go_wp2_with fail
      go_roundg (256 - n')
      case measure =>
        have h1 := H4.out.1
        have h2 := H4.out.2.2.2.2.2.1.2.2 n' H5.out.1
        have h3 := H4.out.2.2.2.2.2.1.1
        omega
      case rel =>
        obtain ⟨hk, hp4, hbb, ha4, hq4, hnm, -⟩ := H4.out
        obtain ⟨hx, q5⟩ := H5.out
        obtain ⟨h1, h2, h3, h4⟩ := hnm.2.2 n' hx
        refine ⟨n', rfl, by omega, ?_, hbb, ha4.keep q5 (fun h => h), hq4.trans q5, h4⟩
        rw [h3, hnm.2.1]
        exact hp4.keep q5 (fun _ _ h => h)
    · have hlt' : ¬ (n : Int) < 256 := by omega
      have hn256 : n = 256 := by omega
      subst hn256
      have H := Lib.hid (And.intro hp (And.intro hb hq))
      clear hp hb hq hn ha hk
      go_wp2
      go_ret
      exact ⟨_, rfl, H.out.1, fun g hg => (H.out.2.1 g hg).1, H.out.2.2⟩
end Go.Proofs.YtidfjeliofgpmaaDoor.Bytes
