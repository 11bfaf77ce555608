/- Layer 9: the code's measures of right expressions are the document's numbers; an expression in a box; Parse. -/
import Derived.Test.YthcjfgfbeollpaaKG41
import Derived.Test.YthcjfgfbeollpaaKG42
import Derived.Test.YthcjfgfbeollpaaKG31
import Derived.Test.YthcjfgfbeollpaaKG43
namespace Go.Proofs.Ythcjfgfbeollpaa.P09
open Go.RowKit Go.Proofs.Ythcjfgfbeollpaa.Base Go.Proofs.Ythcjfgfbeollpaa.Bytes Go.Proofs.Ythcjfgfbeollpaa.P07 Go.Proofs.Ythcjfgfbeollpaa.P08
open Go.Proofs.Ythcjfgfbeollpaa.Sets (ST)

theorem wide_r {t : T} (hR : RT 12 t) {n : Int} (hn : wd t = n) (a : Option Addr) (c : Nat) (w : World) (hL : Lie w (fun _ => True) a t.subs) :
    Calls Try.prog 54 #[nodeV t a c] w fun e w' => e = .returned (.int .i64 n) ∧ Keep (fun _ => False) w w' := by
  have hs := RT_sok t 12 hR
  have h := mwide_any t hs a c w hL
  rw [if_pos ((rightB_iff hs).2 hR), hn] at h
  exact h
/-- An expression in block n. -/
structure Nd (W : World) (n : Nat) (t : T) (a : Option Addr) (c : Nat) : Prop where
  cell : At W n 27 (ncells t a c)
  lie : Lie W (fun _ => True) a t.subs
  le : t.subs.length ≤ c
theorem Nd.keep {W W' : World} {n : Nat} {t : T} {a : Option Addr} {c : Nat} (h : Nd W n t a c) (q : Keep (fun _ => False) W W') : Nd W' n t a c := ⟨h.cell.keep q (fun h => h), h.lie.keepF q, h.le⟩
theorem Nd.new {W : World} {t : T} {a : Option Addr} {c : Nat} {ok : Nat → Prop} (hle : t.subs.length ≤ c) (hL : Lie W ok a t.subs) : Nd (W.alloc (.cells (ncells t a c) 27)) W.heap.size t a c :=
  ⟨At.new W _ _, (hL.mono (fun _ _ => trivial)).keepF ((Keep.refl (fun _ => False) W).alloc _), hle⟩
/-- Parse of a text that is right. -/
theorem parse_right9 {F : Nat} {l : List UInt8} {t : T} (h : parse F l = .inr t) (hF : l.length + 2 ≤ F) (hl : l.length ≤ 100000000) (w : World) :
    Calls Try.prog 74 #[P07.str l] w fun e w' => ∃ a c, e = .returned (.tuple #[nodeV t a c, .int .i64 0, .int .i64 0]) ∧ t.subs.length ≤ c ∧ Lie w' (fun k => w.heap.size ≤ k) a t.subs ∧ Keep (fun _ => False) w w' := by
  refine (regex_any F l hF hl w).mono ?_
  rintro e w' ⟨hP, q⟩
  rw [h] at hP
  obtain ⟨v, rfl, a, c, rfl, hle, hL⟩ := hP
  exact ⟨a, c, rfl, hle, hL, q⟩

end Go.Proofs.Ythcjfgfbeollpaa.P09
