/- The document's parser (layer 7): a list of bytes as a set; the loop over a class's ranges. -/
import Derived.Test.YtgjmomiobffmdaaNum07
import Derived.Test.YtgjmomiobffmdaaRSet
namespace Go.Proofs.Ytgjmomiobffmdaa.P07
open Go.RowKit Go.Proofs.Ytgjmomiobffmdaa.Base Go.Proofs.Ytgjmomiobffmdaa.IL Go.Proofs.Ytgjmomiobffmdaa.Bytes
open Go.Proofs.Ytgjmomiobffmdaa.Sets (ST)

/-- Bytes as ints. -/
def ints (L : List Nat) : List Int := L.map fun (b : Nat) => (b : Int)

theorem mk_snoc (L : List Nat) (b : Nat) : mkS (L ++ [b]) = ST.or (mkS L) (ST.one b) := by
  unfold mkS
  rw [List.foldl_append]
  rfl
theorem mk_ok : ∀ n (L : List Nat), L.length = n → (mkS L).Ok
  | 0, L, h => by
    rw [List.eq_nil_of_length_eq_zero h]
    exact ST.none_ok
  | n + 1, L, h => by
    obtain ⟨M, b, rfl⟩ : ∃ M b, L = M ++ [b] := ⟨L.dropLast, L.getLast (by intro e; rw [e] at h; cases h), (List.dropLast_concat_getLast _).symm⟩
    rw [mk_snoc]
    exact ST.or_ok (mk_ok n M (by simpa using h)) (ST.and_ok (ST.below_ok _))
theorem mk_has (b : Nat) (hb : b < 256) : ∀ n (L : List Nat), L.length = n → (mkS L).has b = decide (b ∈ L)
  | 0, L, h => by
    rw [List.eq_nil_of_length_eq_zero h]
    exact ST.has_none b
  | n + 1, L, h => by
    obtain ⟨M, x, rfl⟩ : ∃ M x, L = M ++ [x] := ⟨L.dropLast, L.getLast (by intro e; rw [e] at h; cases h), (List.dropLast_concat_getLast _).symm⟩
    rw [mk_snoc, ST.has_or _ _ _ hb, ST.has_one _ _ hb, mk_has b hb n M (by simpa using h)]
    rw [Bool.eq_iff_iff]
    simp [List.mem_append]
theorem mk_add (L : List Nat) : addAll .none (ints L) = mkS L := by
  refine ST.ext (addAll_ok ST.none_ok _) (mk_ok _ L rfl) (fun b hb => ?_)
  rw [has_addAll b hb .none ST.none_ok (ints L) (fun x hx => by
    obtain ⟨y, -, rfl⟩ := List.mem_map.1 hx
    exact Int.natCast_nonneg y), mk_has b hb _ L rfl, ST.has_none, Bool.false_or]
  rw [Bool.eq_iff_iff, decide_eq_true_iff, decide_eq_true_iff]
  unfold ints
  rw [List.mem_map]
  constructor
  · rintro ⟨a, h1, h2⟩
    have : a = b := by omega
    rw [← this]
    exact h1
  · exact fun h => ⟨b, h, rfl⟩

theorem set_is (L : List Nat) (hL : ∀ x ∈ L, x < 256) (hlen : L.length ≤ 1000000) (v : Value) (w : World) (h : IL w v (ints L)) : Calls Try.prog 44 #[v] w fun e w' => e = .returned (val (mkS L)) ∧ Keep (fun _ => False) w w' := by
  rw [← mk_add L]
  exact set_any (ints L) (fun x hx => by
    obtain ⟨y, hy, rfl⟩ := List.mem_map.1 hx
    have := hL y hy
    omega) (by unfold ints; rw [List.length_map]; exact hlen) v w h
end Go.Proofs.Ytgjmomiobffmdaa.P07
