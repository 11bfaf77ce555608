/- slices.Sorted(maps.Keys(m)) at the map of regions: the regions' numbers, ascending, in a new slice. -/
import Derived.Test.YtklknkeanmjhnaaRegs
import Derived.Test.YtklknkeanmjhnaaLists
import Derived.Test.YtklknkeanmjhnaaLayK
namespace Go.Proofs.Ytklknkeanmjhnaa.Ids
open Go.RowKit Go.Maps Go.Sort Go.Shelf Go.Proofs.Ytklknkeanmjhnaa.Base Go.Proofs.Ytklknkeanmjhnaa.Regs Go.Proofs.Ytklknkeanmjhnaa.Lists

theorem sorts (m : Nat) : AnyZI.SortsIn Try.prog Lay.sortedA_ren Fence.wide m :=
  ⟨fun blk off cap ss W hH hblk hsz => callsIn_wide.2 (AnyM.slices_Sort_int Lay.sortA blk off cap ss W hH hblk hsz),
   fun p cap W => callsIn_wide.2 (AnyM.slices_Sort_int_none Lay.sortA p cap W)⟩

/-- The world behind maps.Keys. -/
abbrev boxed (w : World) (rb : Nat) : World := w.alloc (.cells #[.map (some rb)] 81)

theorem keys_any (rb : Nat) (w : World) :
    Calls Try.prog 57 #[.map (some rb)] w fun e w' => e = .returned (.func (.func 67) #[] #[.pointer (some ⟨w.heap.size, 0, none⟩)]) ∧ w' = boxed w rb :=
  (callsIn_wide (n := 5)).1 (AnyZI.keys_in Lay.keysA Fence.wide 5 trivial rfl (some rb) w)

def ids (L : List Reg) : List Int := L.map fun r => (r.id : Int)

theorem intKeys_DL (L : List Reg) : intKeys (DL L) = ids L := by
  unfold intKeys DL ids
  simp only [List.map_map]
  rfl

theorem ids_sorted {L : List Reg} (h : L.Pairwise fun a b => a.id < b.id) {ss : List Int} (hp : ss.Perm (ids L)) : ss.mergeSort (fun x y => decide (x ≤ y)) = ids L := by
  refine List.Perm.eq_of_pairwise (le := fun a b => decide (a ≤ b) = true) (fun a b _ _ h1 h2 => ?_) (List.pairwise_mergeSort (fun a b c h1 h2 => ?_) (fun a b => ?_) ss) ?_ ((List.mergeSort_perm ss _).trans hp)
  · simp at h1 h2; omega
  · simp at h1 h2 ⊢; omega
  · simp; omega
  · unfold ids
    rw [List.pairwise_map]
    exact h.imp (fun h => by simp; omega)

set_option maxRecDepth 100000 in
theorem sorted_any (rb : Nat) (L : List Reg) (w : World) (h : RM w rb L) (hs : L.Pairwise fun a b => a.id < b.id) (hl : L.length ≤ 1048576) :
    Calls Try.prog 56 #[.func (.func 67) #[] #[.pointer (some ⟨w.heap.size, 0, none⟩)]] (boxed w rb) fun e w' =>
      ∃ v, e = .returned v ∧ IL w' v (ids L) ∧ (∀ g, v.ownBlock = some g → w.heap.size ≤ g) ∧ Keep (fun _ => False) w w' := by
  have hseq : SeqGives Fence.wide 2 Try.prog 67 #[.pointer (some ⟨w.heap.size, 0, none⟩)] encZ (fun ss => ss.Perm (intKeys (DL L))) (Maps.size (DL L)) (boxed w rb) :=
    AnyZI.keys_gives (ρ := Lay.keysA_ren) { Lay.keysA with } Fence.wide _ trivial rfl (by omega) w.heap.size rb L.length (DL L) (R := regR) _ (by simp) (by simp) (by
      have hbl := h.lt
      obtain ⟨es, clock, hb, Ft, hs, hD⟩ := h
      exact ⟨es, clock, (Below.heap_alloc _ _ rb hbl).trans hb, Ft, hs, hD⟩)
  have cS := AnyZI.sorted_in Lay.sortedA Fence.wide 5 trivial trivial trivial trivial rfl (by omega) (sorts _) (enters_of Try.func63 (by kernel_rfl) rfl) 67 #[.pointer (some ⟨w.heap.size, 0, none⟩)] trivial (enters_of Try.func67 (by kernel_rfl) rfl) _ _ (by rw [size_DL]; unfold maxLen; omega) (by rw [size_DL]; omega) _ hseq
  change CallsIn _ _ Try.prog 56 _ _ _ at cS
  refine (callsIn_wide.1 cS).mono ?_
  rintro e w' ⟨v, ss, rfl, hS, hrow, hnil, hb⟩
  rw [intKeys_DL] at hS
  rw [ids_sorted hs hS] at hrow
  have hlen : ss.length = (ids L).length := hS.length_eq
  rw [hlen] at hrow
  have hq : Keep (fun _ => False) w w' := ((Keep.refl _ w).alloc _).trans (Keep.of_below hb)
  refine ⟨v, rfl, ⟨hrow.1, ?_⟩, fun g hg => ?_, hq⟩
  · rcases hrow.2 with h | ⟨g, cap, cur, e, hbg, r⟩
    · exact .inl h
    · exact .inr ⟨g, cap, cur, e, Nat.zero_le _, r⟩
  · rcases hrow.2 with ⟨rfl, _⟩ | ⟨g', cap, cur, rfl, hbg, r⟩
    · cases hg
    · have e : some g' = some g := hg
      injection e with e
      simp at hbg
      omega

end Go.Proofs.Ytklknkeanmjhnaa.Ids
