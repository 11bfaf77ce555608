/- A slice of sets in memory, as an argument or of the program's own, and the document's alike. -/
import Derived.Test.YtidfjeliofgpmaaDoorFrom
import Derived.Test.YtidfjeliofgpmaaDoorCls
import Derived.Deep.MidRow
import Derived.Deep.RegionHeld3
namespace Go.Proofs.YtidfjeliofgpmaaDoor.SetL
open Go.RowKit Go.Proofs.YtidfjeliofgpmaaDoor.Base Go.Proofs.YtidfjeliofgpmaaDoor.Sets Go.Proofs.YtidfjeliofgpmaaDoor.Bytes

/-- The sets L lie at a. -/
def SL (w : World) (a : Option Addr) (L : List ST) : Prop :=
  L = [] ∨ ∃ bl off : Nat, a = some ⟨bl, off, none⟩ ∧ bl < w.heap.size ∧ ∀ i s, L[i]? = some s → ∀ j, j < 4 → w.cell? ⟨bl, off + (i * 4 + j), none⟩ = some (.int .u64 (s.w j))

theorem SL.keep {S : Nat → Prop} {w w' : World} {a : Option Addr} {L : List ST} (h : SL w a L) (q : Keep S w w') (hn : ∀ x, a = some x → ¬ S x.block) : SL w' a L := by
  rcases h with h | ⟨bl, off, rfl, hb, hc⟩
  · exact .inl h
  · exact .inr ⟨bl, off, rfl, Nat.lt_of_lt_of_le hb q.size, fun i s hs j hj => by rw [q.cell (a := ⟨bl, off + (i * 4 + j), none⟩) hb (show ¬ S bl from hn ⟨bl, off, none⟩ rfl)]; exact hc i s hs j hj⟩

theorem SL.range {w : World} {a : Option Addr} {L : List ST} (h : SL w a L) {i : Nat} {s : ST} (hs : L[i]? = some s) : ∃ bl off : Nat, a = some ⟨bl, off, none⟩ ∧ bl < w.heap.size ∧ w.rangeAt bl (off + i * 4) (cells s).toList := by
  rcases h with rfl | ⟨bl, off, rfl, hb, hc⟩
  · simp at hs
  · refine ⟨bl, off, rfl, hb, fun j v hv => ?_⟩
    have hj : j < 4 := (List.getElem?_eq_some_iff.1 hv).1
    have := hc i s hs j hj
    rw [Nat.add_assoc, this]
    have h2 := cells_at s j hj
    rw [← hv, ← h2]
    simp

/-- In the same ones of the sets? -/
def alike (L : List ST) (x y : Nat) : Bool := L.all fun s => s.has x == s.has y
def alikeFrom (L : List ST) (x y : Nat) (i : Nat) : Bool := alike (L.drop i) x y

theorem alikeFrom_end (L : List ST) (x y : Nat) : alikeFrom L x y L.length = true := by simp [alikeFrom, alike]
theorem alikeFrom_step (L : List ST) (x y i : Nat) (s : ST) (h : L[i]? = some s) : alikeFrom L x y i = ((s.has x == s.has y) && alikeFrom L x y (i + 1)) := by
  obtain ⟨hi, e⟩ := List.getElem?_eq_some_iff.1 h
  unfold alikeFrom alike
  rw [List.drop_eq_getElem_cons hi, e]
  rfl


theorem SL.cells {w : World} {bl off : Nat} {L : List ST} (h : SL w (some ⟨bl, off, none⟩) L) {i : Nat} {s : ST} (hs : L[i]? = some s) (j : Nat) (hj : j < 4) : w.cell? ⟨bl, off + (i * 4 + j), none⟩ = some (.int .u64 (s.w j)) := by
  rcases h with rfl | ⟨bl', off', h1, hb, hc⟩
  · simp at hs
  · cases h1
    exact hc i s hs j hj

theorem rhas_is {s : ST} {b : Nat} {v : Bool} (hb : b < 256) (h : s.has b = v) (w : World) : Calls Tryd.prog 20 #[val s, .int .i64 b] w fun e w' => e = .returned (.bool v) ∧ Keep (fun _ => False) w w' := by
  rw [← h]
  exact rhas_any s b hb w

set_option maxRecDepth 100000 in
theorem alike_any (L : List ST) (a : Option Addr) (cap x y : Nat) (hl : L.length ≤ 2097152) (hx : x < 256) (hy : y < 256) (w : World) (hL : SL w a L) :
    Calls Tryd.prog 29 #[.slice a L.length cap, .int .i64 x, .int .i64 y] w fun e w' => e = .returned (.bool (alike L x y)) ∧ Keep (fun _ => False) w w' := by
  have H0 := Lib.hid hL
  clear hL
  have hE : alike L x y = alikeFrom L x y 0 := rfl
  have E0 := Lib.hid hE
  clear hE
  go_enter Tryd.func29, Tryd.ntmps29
  go_wp2_with fail
  go_loopg [7] L.length (fun gg i wr => ∃ k : Nat, i = .int .i64 k ∧ k + gg = L.length ∧ alike L x y = alikeFrom L x y k ∧ Keep (fun _ => False) w wr)
  case atStart => exact ⟨0, rfl, by omega, E0.out, Keep.refl _ _⟩
  case round =>
    obtain ⟨k, rfl, hk, hh, hq⟩ := hrel
    by_cases hlt : k < L.length
    · obtain ⟨s, hs⟩ : ∃ s, L[k]? = some s := ⟨L[k], List.getElem?_eq_getElem hlt⟩
      obtain ⟨bl, off, rfl, hb, -⟩ := H0.out.range hs
      have hr := alikeFrom_step L x y k s hs
      have hc := fun wx (q : Keep (fun _ => False) wr wx) => (H0.out.keep (hq.trans q) (fun _ _ h => h)).cells hs
      have hS : ∀ w', Keep (fun _ => False) wr w' → Keep (fun _ => False) wr w' ∧ w'.cell? ⟨bl, off + k * 4, none⟩ = some (.int .u64 s.x0) ∧ w'.cell? ⟨bl, off + k * 4 + 1, none⟩ = some (.int .u64 s.x1) ∧ w'.cell? ⟨bl, off + k * 4 + 2, none⟩ = some (.int .u64 s.x2) ∧ w'.cell? ⟨bl, off + k * 4 + 3, none⟩ = some (.int .u64 s.x3) :=
        fun w' q => ⟨q, hc w' q 0 (by omega), hc w' q 1 (by omega), hc w' q 2 (by omega), hc w' q 3 (by omega)⟩
      have HS := Lib.hid hS
      have HH := Lib.hid (And.intro hk (And.intro hh (And.intro hr hq)))
      clear hS hc hk hh hr hq
      have hlt' : (k : Int) < L.length := by omega
      obtain ⟨p, hp⟩ : ∃ v, s.has x = v := ⟨_, rfl⟩
      obtain ⟨r, hr⟩ : ∃ v, s.has y = v := ⟨_, rfl⟩
      have HP := Lib.hid hp
      have HR := Lib.hid hr
      clear hp hr
      go_wp2_with fail
      go_region_held3 (fun w' => Keep (fun _ => False) wr w' ∧ w'.cell? ⟨bl, off + k * 4, none⟩ = some (.int .u64 s.x0) ∧ w'.cell? ⟨bl, off + k * 4 + 1, none⟩ = some (.int .u64 s.x1) ∧ w'.cell? ⟨bl, off + k * 4 + 2, none⟩ = some (.int .u64 s.x2) ∧ w'.cell? ⟨bl, off + k * 4 + 3, none⟩ = some (.int .u64 s.x3)) (first | exact HS.out _ ((Keep.refl _ _).drew) | exact HS.out _ (Keep.trans (And.left (by assumption)) q)) (first
        | (go_at_call_of 20 (Value.int IntKind.i64 (x : Int)); refine (rhas_is hx HP.out _).mono ?_; rintro e w1 ⟨rfl, q⟩)
        | (go_at_call_of 20 (Value.int IntKind.i64 (y : Int)); refine (rhas_is hy HR.out _).mono ?_; rintro e w1 ⟨rfl, q⟩))
      all_goals
        rename_i hHeld
        have HK := Lib.hid hHeld.1
        clear hHeld
        cases p <;> cases r
        all_goals
          go_wp2_with fail
      all_goals first
        | (go_ret
           exact ⟨ret_bool (by rw [HH.out.2.1, HH.out.2.2.1, HP.out, HR.out]; rfl), HH.out.2.2.2.trans HK.out⟩)
        | (go_roundg (L.length - (k + 1))
           case measure => have := HH.out.1; omega
           case rel => exact ⟨k + 1, by go_num, by omega, by rw [HH.out.2.1, HH.out.2.2.1, HP.out, HR.out]; rfl, HH.out.2.2.2.trans HK.out⟩)
    · have hkl : k = L.length := by omega
      subst hkl
      have H := Lib.hid (And.intro hh hq)
      clear hh hq hk
      go_wp2
      go_ret
      exact ⟨ret_bool (by rw [H.out.1, alikeFrom_end]), H.out.2⟩
end Go.Proofs.YtidfjeliofgpmaaDoor.SetL
