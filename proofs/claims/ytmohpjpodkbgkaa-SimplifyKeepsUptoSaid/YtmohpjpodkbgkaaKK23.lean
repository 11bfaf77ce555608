/- A strings.Builder of the call's own, beside other blocks: what WriteString and String do to it and what they leave alone. -/
import Derived.Test.YtmohpjpodkbgkaaKK09
import Derived.Test.YtmohpjpodkbgkaaKK21
namespace Go.Proofs.Ytmohpjpodkbgkaa.Bytes
open Go.RowKit Go.Proofs.Ytmohpjpodkbgkaa.Base Go.Proofs.Ytmohpjpodkbgkaa.Sets Go.Proofs.Ytmohpjpodkbgkaa.Builder

theorem own_keep {S : Nat → Prop} {w w' : World} {B : Nat} {v : Value} {n : Nat} {xs : List Value} (h : w.ownsRow B 5 1 v n xs) (q : Keep S w w') (hn : ∀ g, v.ownBlock = some g → ¬ S g) : w'.ownsRow B 5 1 v n xs := by
  refine ⟨h.1, ?_⟩
  rcases h.2 with h | ⟨g, cap, cur, rfl, hb, hg, r⟩
  · exact .inl h
  · refine .inr ⟨g, cap, cur, rfl, hb, ?_, r⟩
    have : At w g 5 cur := hg
    exact this.keep q (hn g rfl)

theorem own_ne {w : World} {B : Nat} {v : Value} {n : Nat} {xs : List Value} (h : w.ownsRow B 5 1 v n xs) {b : Nat} {t : TypeId} {cs : Array Value} (ha : At w b t cs) (ht : t ≠ 5) : v.ownBlock ≠ some b :=
  Lib.ownBlock_ne h ha ht

theorem own_base {w : World} {B : Nat} {v : Value} {n : Nat} {xs : List Value} (h : w.ownsRow B 5 1 v n xs) {g : Nat} (hg : v.ownBlock = some g) : B ≤ g := by
  rcases h.2 with ⟨rfl, _⟩ | ⟨g', cap, cur, rfl, hb, _⟩
  · cases hg
  · cases hg
    exact hb

end Go.Proofs.Ytmohpjpodkbgkaa.Bytes
