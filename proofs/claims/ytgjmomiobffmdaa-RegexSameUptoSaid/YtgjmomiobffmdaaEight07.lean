/- Eight stores in one block. -/
import Derived.Test.YtgjmomiobffmdaaBase
namespace Go.Proofs.Ytgjmomiobffmdaa.P07
open Go.RowKit Go.Proofs.Ytgjmomiobffmdaa.Base

theorem cells8 {w : World} {b : Nat} {t : TypeId} {y0 y1 y2 y3 y4 y5 y6 y7 : Value} (h : At w b t #[y0, y1, y2, y3, y4, y5, y6, y7]) :
    (w.cell? ⟨b, 0, none⟩ = some y0 ∧ w.cell? ⟨b, 1, none⟩ = some y1 ∧ w.cell? ⟨b, 2, none⟩ = some y2 ∧ w.cell? ⟨b, 3, none⟩ = some y3 ∧ w.cell? ⟨b, 4, none⟩ = some y4 ∧ w.cell? ⟨b, 5, none⟩ = some y5 ∧ w.cell? ⟨b, 6, none⟩ = some y6 ∧ w.cell? ⟨b, 7, none⟩ = some y7) ∧
    (w.frozen? ⟨b, 0, none⟩ = false ∧ w.frozen? ⟨b, 1, none⟩ = false ∧ w.frozen? ⟨b, 2, none⟩ = false ∧ w.frozen? ⟨b, 3, none⟩ = false ∧ w.frozen? ⟨b, 4, none⟩ = false ∧ w.frozen? ⟨b, 5, none⟩ = false ∧ w.frozen? ⟨b, 6, none⟩ = false ∧ w.frozen? ⟨b, 7, none⟩ = false) :=
  ⟨⟨h.cell rfl, h.cell rfl, h.cell rfl, h.cell rfl, h.cell rfl, h.cell rfl, h.cell rfl, h.cell rfl⟩, h.frozen 0, h.frozen 1, h.frozen 2, h.frozen 3, h.frozen 4, h.frozen 5, h.frozen 6, h.frozen 7⟩

def put8 (w : World) (b : Nat) (v0 v1 v2 v3 v4 v5 v6 v7 : Value) : World :=
  ((((((((w.setCell ⟨b, 0, none⟩ v0).setCell ⟨b, 1, none⟩ v1).setCell ⟨b, 2, none⟩ v2).setCell ⟨b, 3, none⟩ v3).setCell ⟨b, 4, none⟩ v4).setCell ⟨b, 5, none⟩ v5).setCell ⟨b, 6, none⟩ v6).setCell ⟨b, 7, none⟩ v7)

theorem set8 {w : World} {b : Nat} {t : TypeId} {y0 y1 y2 y3 y4 y5 y6 y7 : Value} (h : At w b t #[y0, y1, y2, y3, y4, y5, y6, y7]) (v0 v1 v2 v3 v4 v5 v6 v7 : Value) :
    At (put8 w b v0 v1 v2 v3 v4 v5 v6 v7) b t #[v0, v1, v2, v3, v4, v5, v6, v7] := by
  have h0 : At (w.setCell ⟨b, 0, none⟩ v0) b t #[v0, y1, y2, y3, y4, y5, y6, y7] := h.set 0 v0
  have h1 : At ((w.setCell ⟨b, 0, none⟩ v0).setCell ⟨b, 1, none⟩ v1) b t #[v0, v1, y2, y3, y4, y5, y6, y7] := h0.set 1 v1
  have h2 : At (((w.setCell ⟨b, 0, none⟩ v0).setCell ⟨b, 1, none⟩ v1).setCell ⟨b, 2, none⟩ v2) b t #[v0, v1, v2, y3, y4, y5, y6, y7] := h1.set 2 v2
  have h3 : At ((((w.setCell ⟨b, 0, none⟩ v0).setCell ⟨b, 1, none⟩ v1).setCell ⟨b, 2, none⟩ v2).setCell ⟨b, 3, none⟩ v3) b t #[v0, v1, v2, v3, y4, y5, y6, y7] := h2.set 3 v3
  have h4 : At (((((w.setCell ⟨b, 0, none⟩ v0).setCell ⟨b, 1, none⟩ v1).setCell ⟨b, 2, none⟩ v2).setCell ⟨b, 3, none⟩ v3).setCell ⟨b, 4, none⟩ v4) b t #[v0, v1, v2, v3, v4, y5, y6, y7] := h3.set 4 v4
  have h5 : At ((((((w.setCell ⟨b, 0, none⟩ v0).setCell ⟨b, 1, none⟩ v1).setCell ⟨b, 2, none⟩ v2).setCell ⟨b, 3, none⟩ v3).setCell ⟨b, 4, none⟩ v4).setCell ⟨b, 5, none⟩ v5) b t #[v0, v1, v2, v3, v4, v5, y6, y7] := h4.set 5 v5
  have h6 : At (((((((w.setCell ⟨b, 0, none⟩ v0).setCell ⟨b, 1, none⟩ v1).setCell ⟨b, 2, none⟩ v2).setCell ⟨b, 3, none⟩ v3).setCell ⟨b, 4, none⟩ v4).setCell ⟨b, 5, none⟩ v5).setCell ⟨b, 6, none⟩ v6) b t #[v0, v1, v2, v3, v4, v5, v6, y7] := h5.set 6 v6
  have h7 : At ((((((((w.setCell ⟨b, 0, none⟩ v0).setCell ⟨b, 1, none⟩ v1).setCell ⟨b, 2, none⟩ v2).setCell ⟨b, 3, none⟩ v3).setCell ⟨b, 4, none⟩ v4).setCell ⟨b, 5, none⟩ v5).setCell ⟨b, 6, none⟩ v6).setCell ⟨b, 7, none⟩ v7) b t #[v0, v1, v2, v3, v4, v5, v6, v7] := h6.set 7 v7
  exact h7

theorem keep8 {S : Nat → Prop} {a w : World} (h : Keep S a w) {b : Nat} (hp : b < a.heap.size → S b) (v0 v1 v2 v3 v4 v5 v6 v7 : Value) :
    Keep S a (put8 w b v0 v1 v2 v3 v4 v5 v6 v7) :=
  (((((((h.setCell (p := ⟨b, 0, none⟩) hp v0).setCell (p := ⟨b, 1, none⟩) hp v1).setCell (p := ⟨b, 2, none⟩) hp v2).setCell (p := ⟨b, 3, none⟩) hp v3).setCell (p := ⟨b, 4, none⟩) hp v4).setCell (p := ⟨b, 5, none⟩) hp v5).setCell (p := ⟨b, 6, none⟩) hp v6).setCell (p := ⟨b, 7, none⟩) hp v7

theorem other8 {w : World} {a b : Nat} {t : TypeId} {vs : Array Value} (h : At w a t vs) (hb : a ≠ b) (v0 v1 v2 v3 v4 v5 v6 v7 : Value) :
    At (put8 w b v0 v1 v2 v3 v4 v5 v6 v7) a t vs :=
  (((((((h.setOther (p := ⟨b, 0, none⟩) hb v0).setOther (p := ⟨b, 1, none⟩) hb v1).setOther (p := ⟨b, 2, none⟩) hb v2).setOther (p := ⟨b, 3, none⟩) hb v3).setOther (p := ⟨b, 4, none⟩) hb v4).setOther (p := ⟨b, 5, none⟩) hb v5).setOther (p := ⟨b, 6, none⟩) hb v6).setOther (p := ⟨b, 7, none⟩) hb v7
end Go.Proofs.Ytgjmomiobffmdaa.P07
