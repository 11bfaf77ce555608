/- first: the least base from which on n places are free. -/
import Derived.Test.YtklknkeanmjhnaaTree
namespace Go.Proofs.Ytklknkeanmjhnaa.Stretch
open Go.RowKit Go.Proofs.Ytklknkeanmjhnaa.Base

theorem Tr.drawn {w w' : World} {b o : Nat} {t : TR} (h : Tr w b o t) (d : Drawn w w') : Tr w' b o t := Tr.keep (S := fun _ => False) (d.keep _) h id (fun _ _ => id)

theorem Drawn.more {w w' : World} (d : Drawn w w') (n : Nat) : Drawn w (w'.drewN n) := by
  obtain ⟨k, rfl⟩ := d
  exact ⟨k + n, by simp [World.drewN, Nat.add_assoc]⟩

theorem first_none (t : TR) (b o : Nat) (n : Int) (w : World) (hT : Tr w b o t) (hn : (t.mo : Int) < n) :
    Calls Try.prog 47 #[np b o, .int .i64 n] w fun e w' => e = .returned (.tuple #[.int .i64 0, .bool false]) ∧ w = w' := by
  have k3 : w.cell? ⟨b, o + 3, none⟩ = some (.int .i64 t.mo) := hT.nd.cells.2.2.2.1
  go_enter Try.func47, Try.ntmps47
  go_wp2
  go_ret2
  exact ⟨rfl, rfl⟩

set_option maxRecDepth 100000 in
set_option maxHeartbeats 1000000 in
theorem first_some (t : TR) (b o : Nat) (n : Nat) (w : World) (ok : t.Ok) (hz : t.size ≤ 1048576) (hT : Tr w b o t) (hn : n ≤ t.mo) :
    Calls Try.prog 47 #[np b o, .int .i64 n] w fun e w' => e = .returned (.tuple #[.int .i64 (t.first n), .bool true]) ∧ Drawn w w' := by
  have k3 : w.cell? ⟨b, o + 3, none⟩ = some (.int .i64 t.mo) := hT.nd.cells.2.2.2.1
  have hlt : ¬ ((t.mo : Int) < n) := by omega
  go_enter Try.func47, Try.ntmps47
  go_wp2_with fail
  go_loopg [0, 6, 7] t.size (fun gg s bs _hf wr => ∃ (t' : TR) (b' o' base : Nat), s = np b' o' ∧ bs = .int .i64 base ∧ t'.size ≤ gg ∧ Tr wr b' o' t' ∧ t'.Ok ∧ n ≤ t'.mo ∧ t.first n = base + t'.first n ∧ base + t'.size ≤ t.size ∧ Drawn w wr)
  case atStart => exact ⟨t, b, o, 0, rfl, rfl, Nat.le_refl _, hT, ok, hn, by simp, by simp, 0, rfl⟩
  case round =>
    obtain ⟨t', b', o', base, rfl, rfl, hgk, hT', ok', hn', hf, hb, hd⟩ := hrel
    cases t' with
    | leaf m f =>
      have k4 : wr.cell? ⟨b', o' + 4, none⟩ = some (.pointer none) := hT'.nd.cells.2.2.2.2.1
      have HF := Lib.hid hf
      clear hf
      go_wp2
      go_ret2
      refine ⟨?_, hd⟩
      rw [HF.out]
      simp [TR.first]
    | node bl l br r =>
      have k4 : wr.cell? ⟨b', o' + 4, none⟩ = some (.pointer (some ⟨bl, 0, none⟩)) := hT'.nd.cells.2.2.2.2.1
      have k5 : wr.cell? ⟨b', o' + 5, none⟩ = some (.pointer (some ⟨br, 0, none⟩)) := hT'.nd.cells.2.2.2.2.2.1
      have l0 : wr.cell? ⟨bl, 0, none⟩ = some (.int .i64 l.size) := hT'.2.1.nd.cells.1
      have l2 : wr.cell? ⟨bl, 2, none⟩ = some (.int .i64 l.bk) := hT'.2.1.nd.cells.2.2.1
      have l3 : wr.cell? ⟨bl, 3, none⟩ = some (.int .i64 l.mo) := hT'.2.1.nd.cells.2.2.2.1
      have r1 : wr.cell? ⟨br, 1, none⟩ = some (.int .i64 r.fr) := hT'.2.2.nd.cells.2.1
      have il := TR.inv ok'.2.2.1
      have ir := TR.inv ok'.2.2.2
      have hs1 := ok'.1
      have hs2 := ok'.2.1
      simp only [TR.size] at hgk hb
      by_cases c1 : n ≤ l.mo
      · have c1' : (n : Int) ≤ l.mo := by omega
        have hf1 : t.first n = base + l.first n := by rw [hf]; simp only [TR.first, if_pos c1]
        have HF := Lib.hid hf1
        clear hf hf1
        go_wp2_with fail
        go_roundg (gk - 1)
        case measure => omega
        case rel => exact ⟨l, bl, 0, base, rfl, rfl, by omega, hT'.2.1, ok'.2.2.1, c1, HF.out, by omega, hd⟩
      · have c1' : ¬ ((n : Int) ≤ l.mo) := by omega
        by_cases c2 : n ≤ l.bk + r.fr
        · have c2' : (n : Int) ≤ l.bk + r.fr := by omega
          have hf1 : t.first n = base + (l.size - l.bk) := by rw [hf]; simp only [TR.first, if_neg c1, if_pos c2]
          have HF := Lib.hid hf1
          clear hf hf1
          go_wp2_with fail
          go_quiet (fail)
          go_wp2
          go_ret2
          refine ⟨?_, Drawn.more hd nq⟩
          rw [HF.out, show ((base + (l.size - l.bk) : Nat) : Int) = base + l.size - l.bk from by omega]
          rfl
        · have c2' : ¬ ((n : Int) ≤ l.bk + r.fr) := by omega
          have hf1 : t.first n = (base + l.size) + r.first n := by rw [hf]; simp only [TR.first, if_neg c1, if_neg c2]; omega
          have HF := Lib.hid hf1
          have hm : n ≤ r.mo := by simp only [TR.mo] at hn'; omega
          clear hf hf1
          go_wp2_with fail
          go_quiet (fail)
          go_wp2_with fail
          go_roundg (gk - 1)
          case measure => omega
          case rel =>
            refine ⟨r, br, 0, base + l.size, rfl, by congr 1, by omega, hT'.2.2.drawn ⟨nq, rfl⟩, ok'.2.2.2, hm, HF.out, by omega, Drawn.more hd nq⟩

end Go.Proofs.Ytklknkeanmjhnaa.Stretch
