/- A list of pairs of bytes in a slice of its own: what append makes of it, what is read, what a store into its last pair's second byte does. -/
import Derived.Test.YthcjfgfbeollpaaKG11
import Derived.Maps.AppendAt
import Derived.Lib.AppendZeros
import Derived.Test.YthcjfgfbeollpaaKG07
namespace Go.Proofs.Ythcjfgfbeollpaa.PL
open Go.RowKit Go.Proofs.Ythcjfgfbeollpaa.Base Go.Proofs.Ythcjfgfbeollpaa.Sets

def flat (L : List (Nat × Nat)) : List Value := L.flatMap fun r => [.int .u8 r.1, .int .u8 r.2]

theorem flat_length : ∀ L, (flat L).length = L.length * 2
  | [] => rfl
  | r :: L => by
    have := flat_length L
    unfold flat at *
    rw [List.flatMap_cons, List.length_append, this, List.length_cons]
    simp
    omega

theorem flat_append (L M : List (Nat × Nat)) : flat (L ++ M) = flat L ++ flat M := List.flatMap_append ..

theorem flat_at : ∀ (L : List (Nat × Nat)) (i : Nat) (r : Nat × Nat), L[i]? = some r → (flat L)[2 * i]? = some (.int .u8 r.1) ∧ (flat L)[2 * i + 1]? = some (.int .u8 r.2)
  | [], i, r, h => by simp at h
  | s :: L, 0, r, h => by
    simp at h
    subst h
    exact ⟨rfl, rfl⟩
  | s :: L, i + 1, r, h => by
    have := flat_at L i r (by simpa using h)
    have e : flat (s :: L) = .int .u8 s.1 :: .int .u8 s.2 :: flat L := rfl
    rw [e, show 2 * (i + 1) = 2 * i + 1 + 1 from by omega]
    simpa using this

theorem keep_grown {w w' : World} {r : Option Nat} (h : w.grownBy w' r) : Keep (fun b => r = some b) w w' :=
  ⟨h.os, h.tape, h.output, h.size, fun k hk hn => h.block k hk (fun e => hn e.symm)⟩

end Go.Proofs.Ythcjfgfbeollpaa.PL
/- Contracts of the document's List, Set, Not. -/
namespace Go.Proofs.Ythcjfgfbeollpaa.Bytes
open Go.RowKit Go.Proofs.Ythcjfgfbeollpaa.Base Go.Proofs.Ythcjfgfbeollpaa.Sets Go.Proofs.Ythcjfgfbeollpaa.PL Go.Proofs.Ythcjfgfbeollpaa.IL

/-- The bytes below k, rising. -/
def lst (p : Nat → Bool) : Nat → List Int
  | 0 => []
  | k + 1 => if p k then lst p k ++ [(k : Int)] else lst p k

theorem lst_length (p : Nat → Bool) : ∀ k, (lst p k).length = cnt p k
  | 0 => rfl
  | k + 1 => by
    have := lst_length p k
    unfold lst cnt
    cases p k <;> simp [this]

/-- What List answers. -/
def IsList (L : List Int) (w : World) (e : Ending) (w' : World) : Prop := ∃ v, e = .returned v ∧ IL w' v L ∧ (∀ g, v.ownBlock = some g → w.heap.size ≤ g) ∧ Keep (fun _ => False) w w'

set_option maxRecDepth 100000 in
theorem list_any (s : ST) (w : World) : Calls Try.prog 60 #[val s] w (IsList (lst s.has 256) w) := by
  go_enter Try.func60, Try.ntmps60
  go_wp2_with fail
  have a1 := At.new w (cells s) 24
  have q1 := (Keep.refl (fun _ => False) w).alloc (.cells (cells s) 24)
  have A1 := Lib.hid (And.intro a1 q1)
  clear a1 q1
  generalize (w.alloc (.cells (cells s) 24)) = W at *
  go_wp2_with fail
  go_loopg [3, 4] 256 (fun gg v i wr => ∃ k : Nat, i = .int .i64 k ∧ k + gg = 256 ∧ IL wr v (lst s.has k) ∧ (∀ g, v.ownBlock = some g → w.heap.size ≤ g ∧ g ≠ w.heap.size) ∧ At wr w.heap.size 24 (cells s) ∧ Keep (fun _ => False) w wr)
  case atStart => exact ⟨0, rfl, rfl, IL.nil _, fun g hg => (by cases hg), A1.out.1, A1.out.2⟩
  case round =>
    obtain ⟨k, rfl, hk, hp, hb, ha, hq⟩ := hrel
    by_cases hlt : k < 256
    · have hlt' : (k : Int) < 256 := by omega
      obtain ⟨⟨c0, c1, c2, c3⟩, -⟩ := cells4 ha
      have H := Lib.hid (And.intro hk (And.intro hp (And.intro hb (And.intro ha hq))))
      clear hk hp hb ha hq
      go_wp2_with fail
      refine (rhas_any s k hlt wr).mono ?_
      rintro e w2 ⟨rfl, q2⟩
      obtain ⟨hk, hp, hb, ha, hq⟩ := H.out
      have ha2 := ha.keep q2 (fun h => h)
      have hp2 := hp.keep q2 (fun _ _ h => h)
      have hq2 := hq.trans q2
      clear H ha hp hq c0 c1 c2 c3
      cases hh : s.has k with
      | false =>
        have hr : lst s.has (k + 1) = lst s.has k := by rw [lst, hh]; rfl
        have H := Lib.hid (And.intro hk (And.intro hp2 (And.intro hb (And.intro ha2 (And.intro hq2 hr)))))
        clear hk hp2 hb ha2 hq2 hr q2
        go_wp2_with fail
        go_roundg (256 - (k + 1))
        case measure => have := H.out.1; omega
        case rel =>
          obtain ⟨hk, hp2, hb, ha2, hq2, hr⟩ := H.out
          exact ⟨k + 1, by go_num, by omega, by rw [hr]; exact hp2, hb, ha2, hq2⟩
      | true =>
        have hr : lst s.has (k + 1) = lst s.has k ++ [(k : Int)] := by rw [lst, hh]; rfl
        obtain ⟨v', w4, hrun, hp4, q4, hb4⟩ := hp2.push (k : Int) (by rw [lst_length]; have := cnt_le s.has k; omega) 38
        have hbb : ∀ g, v'.ownBlock = some g → w.heap.size ≤ g ∧ g ≠ w.heap.size := fun g hg => by
          rcases hb4 g hg with h | h
          · exact hb g h
          · have := ha2.lt
            omega
        have hq4 : Keep (fun _ => False) w w4 := hq2.next q4 (fun i hi hl => by have := (hb i hi).1; omega)
        have H := Lib.hid (And.intro hk (And.intro hp4 (And.intro hbb (And.intro (ha2.keep q4 (fun h => (hb _ h).2 rfl)) (And.intro hq4 hr)))))
        clear hk hp2 hb ha2 hq2 hr q2 hp4 q4 hb4 hbb hq4
        go_wp2_with (at_builtin; refine Lib.wpList_append_run _ rfl _ _ _ _ rfl _ _ rfl rfl _ _ hrun ?_)
        clear hrun
        go_wp2_with fail
        go_roundg (256 - (k + 1))
        case measure => have := H.out.1; omega
        case rel =>
          obtain ⟨hk, hp2, hb, ha2, hq2, hr⟩ := H.out
          exact ⟨k + 1, by go_num, by omega, by rw [hr]; exact hp2, hb, ha2, hq2⟩
    · have hk256 : k = 256 := by omega
      subst hk256
      have H := Lib.hid (And.intro hp (And.intro hb hq))
      clear hp hb hq ha hk
      go_wp2
      go_ret
      exact ⟨_, rfl, H.out.1, fun g hg => (H.out.2.1 g hg).1, H.out.2.2⟩

/-- One byte more. -/
def add (s : ST) (x : Nat) : ST := if s.has x then s else .of4 fun i => if i = x / 64 then s.w i + 2 ^ (x % 64) else s.w i

theorem add_bit (y j : Nat) (hy : y < 18446744073709551616) (hj : j < 64) (h : y.testBit j = false) : y + 2 ^ j = y ||| 2 ^ j := by
  have e : BitVec.ofNat 64 y &&& BitVec.ofNat 64 (2 ^ j) = 0#64 := by
    apply BitVec.eq_of_getLsbD_eq
    intro i hi
    rw [BitVec.getLsbD_and, BitVec.getLsbD_ofNat, BitVec.getLsbD_ofNat, Nat.testBit_two_pow]
    by_cases hij : j = i
    · subst hij
      simp [h]
    · simp [hij]
  have hp : (2 : Nat) ^ j < 2 ^ 64 := Nat.pow_lt_pow_right (by decide) hj
  have k := BitVec.add_eq_or_of_and_eq_zero _ _ e
  have hor : y ||| 2 ^ j < 2 ^ 64 := Nat.or_lt_two_pow (by simpa using hy) hp
  have hle : y + 2 ^ j < 2 ^ 64 := by
    have t1 := Nat.testBit_two_pow_add_eq y j
    refine Nat.lt_of_not_le fun hge => ?_
    have hlow : y < 2 ^ 64 := by simpa using hy
    -- the bit j is nought: so the sum stays below
    have h2 : (y + 2 ^ j) / 2 ^ j = y / 2 ^ j + 1 := Nat.add_div_right _ (Nat.two_pow_pos _)
    have h3 : y / 2 ^ j % 2 = 0 := by
      have := Nat.testBit_eq_decide_div_mod_eq (x := y) (i := j)
      rw [h] at this
      have h4 : ¬ (y / 2 ^ j % 2 = 1) := by simpa using this.symm
      omega
    have h5 : 2 ^ 64 / 2 ^ j = 2 ^ (64 - j) := Nat.pow_div (by omega) (by decide)
    have h6 : 2 ^ 64 / 2 ^ j ≤ (y + 2 ^ j) / 2 ^ j := Nat.div_le_div_right hge
    have h7 : y / 2 ^ j < 2 ^ (64 - j) := by
      rw [Nat.div_lt_iff_lt_mul (Nat.two_pow_pos _), ← Nat.pow_add]
      rwa [show 64 - j + j = 64 from by omega]
    have h8 : 2 ^ (64 - j) = 2 * 2 ^ (63 - j) := by rw [show 64 - j = (63 - j) + 1 from by omega, Nat.pow_succ, Nat.mul_comm]
    omega
  have k2 := congrArg BitVec.toNat k
  have e1 : y % 2 ^ 64 = y := Nat.mod_eq_of_lt (by omega)
  have e2 : 2 ^ j % 2 ^ 64 = 2 ^ j := Nat.mod_eq_of_lt hp
  rw [BitVec.toNat_add, BitVec.toNat_or, BitVec.toNat_ofNat, BitVec.toNat_ofNat, e1, e2, Nat.mod_eq_of_lt hle] at k2
  exact k2

theorem add_ok {s : ST} (hs : s.Ok) (x : Nat) : (add s x).Ok := by
  unfold add
  split
  · exact hs
  · rename_i h
    refine ST.of4_ok fun i => ?_
    split
    · rename_i hi
      subst hi
      have hb : (s.w (x / 64)).testBit (x % 64) = false := by simpa [ST.has] using h
      rw [add_bit _ _ (hs.w _) (by omega) hb]
      have hp : (2 : Nat) ^ (x % 64) < 2 ^ 64 := Nat.pow_lt_pow_right (by decide) (by omega)
      exact Nat.or_lt_two_pow (n := 64) (hs.w _) hp
    · exact hs.w i

theorem has_add {s : ST} (hs : s.Ok) (x b : Nat) (hb : b < 256) : (add s x).has b = (s.has b || decide (b = x)) := by
  unfold add
  split
  · rename_i h
    by_cases e : b = x
    · subst e; simp [h]
    · simp [e]
  · rename_i h
    have h' : (s.w (x / 64)).testBit (x % 64) = false := by simpa [ST.has] using h
    rw [ST.has_of4 _ _ hb]
    by_cases e : b / 64 = x / 64
    · rw [if_pos e, e, add_bit _ _ (hs.w _) (by omega) h', Nat.testBit_or, Nat.testBit_two_pow]
      have e2 : decide (x % 64 = b % 64) = decide (b = x) := decide_eq_decide.2 (by omega)
      rw [e2]
      unfold ST.has
      rw [e]
    · rw [if_neg e]
      have : b ≠ x := fun h => e (by rw [h])
      simp [this, ST.has]

/-- The set of a list. -/
def addAll (s : ST) : List Int → ST
  | [] => s
  | x :: l => addAll (add s x.toNat) l

theorem addAll_snoc (x : Int) : ∀ (s : ST) (l : List Int), addAll s (l ++ [x]) = add (addAll s l) x.toNat
  | _, [] => rfl
  | s, y :: l => addAll_snoc x (add s y.toNat) l

theorem addAll_ok : ∀ {s : ST} (_ : s.Ok) (l : List Int), (addAll s l).Ok
  | _, h, [] => h
  | _, h, x :: l => addAll_ok (add_ok h x.toNat) l

theorem has_addAll (b : Nat) (hb : b < 256) : ∀ (s : ST) (_ : s.Ok) (l : List Int) (_ : ∀ x, x ∈ l → 0 ≤ x), (addAll s l).has b = (s.has b || decide ((b : Int) ∈ l))
  | s, _, [], _ => by simp [addAll]
  | s, hs, x :: l, h => by
    rw [addAll, has_addAll b hb _ (add_ok hs _) l (fun y hy => h y (List.mem_cons_of_mem _ hy)), has_add hs _ _ hb, Bool.or_assoc]
    congr 1
    have := h x (by simp)
    rw [Bool.eq_iff_iff]
    simp only [Bool.or_eq_true, decide_eq_true_eq, List.mem_cons]
    constructor
    · rintro (h1 | h1)
      · exact .inl (by omega)
      · exact .inr h1
    · rintro (h1 | h1)
      · exact .inl (by omega)
      · exact .inr h1

theorem set_word (s : ST) (i v : Nat) (h : i < 4) : (cells s).setIfInBounds i (.int .u64 (v : Int)) = cells (.of4 fun j => if j = i then v else s.w j) := by
  match i, h with
  | 0, _ => rfl
  | 1, _ => rfl
  | 2, _ => rfl
  | 3, _ => rfl

theorem wrap_bit (y j : Nat) (hy : y < 18446744073709551616) (hj : j < 64) (h : y.testBit j = false) : IntKind.u64.wrap ((y : Int) + IntKind.u64.wrap (2 ^ j)) = ((y + 2 ^ j : Nat) : Int) := by
  have hp : (2 : Nat) ^ j < 2 ^ 64 := Nat.pow_lt_pow_right (by decide) hj
  have e : ((2 : Int) ^ j) = ((2 ^ j : Nat) : Int) := by rw [Int.natCast_pow]; rfl
  have hor : y ||| 2 ^ j < 2 ^ 64 := Nat.or_lt_two_pow (by omega) hp
  have := add_bit y j hy hj h
  rw [e, wrap_lt _ (by omega), ← Int.natCast_add]
  exact wrap_lt _ (by omega)

set_option maxRecDepth 100000 in
theorem set_any (L : List Int) (hL : ∀ x, x ∈ L → 0 ≤ x ∧ x < 256) (hlen : L.length ≤ 256) (v : Value) (w : World) (h : IL w v L) : Calls Try.prog 62 #[v] w fun e w' => e = .returned (val (addAll .none L)) ∧ Keep (fun _ => False) w w' := by
  obtain ⟨a, cap, rfl, hc⟩ := h.form
  have HC := Lib.hid (And.intro h hc)
  clear h hc
  go_enter Try.func62, Try.ntmps62
  go_wp2_with fail
  have a1 := (At.new w zeros 24).alloc (.cells zeros 24)
  have a2 := At.new (w.alloc (.cells zeros 24)) zeros 24
  have q := ((Keep.refl (fun _ => False) w).alloc (.cells zeros 24)).alloc (.cells zeros 24)
  rw [show (w.alloc (.cells zeros 24)).heap.size = w.heap.size + 1 from by simp] at a2
  have A1 := Lib.hid (And.intro a1 (And.intro a2 q))
  clear a1 a2 q
  generalize ((w.alloc (.cells zeros 24)).alloc (.cells zeros 24)) = W at *
  go_loopg [4] L.length (fun gg i wr => ∃ k : Nat, i = .int .i64 k ∧ k + gg = L.length ∧ At wr w.heap.size 24 zeros ∧ At wr (w.heap.size + 1) 24 (cells (addAll .none (L.take k))) ∧ Keep (fun _ => False) w wr)
  case atStart => exact ⟨0, rfl, by omega, A1.out.1, A1.out.2.1, A1.out.2.2⟩
  case round =>
    obtain ⟨k, rfl, hk, h2, h1, hq⟩ := hrel
    have ok := addAll_ok ST.none_ok (L.take k)
    by_cases hlt : k < L.length
    · have hx := hL L[k] (List.getElem_mem hlt)
      obtain ⟨x, hxe⟩ : ∃ x : Nat, L[k] = (x : Int) := ⟨L[k].toNat, by omega⟩
      have hx2 : x < 256 := by omega
      have hget : L[k]? = some (x : Int) := by rw [List.getElem?_eq_getElem hlt, hxe]
      obtain ⟨g, -, rfl, hcell⟩ := HC.out.2 k _ hget
      have hcell' : wr.cell? ⟨g, k, none⟩ = some (.int .i64 x) := (hq.cell (a := ⟨g, k, none⟩) (World.block_lt_of_cell? w _ hcell) (fun h => h)).trans hcell
      have htk : L.take (k + 1) = L.take k ++ [(x : Int)] := by rw [List.take_add_one, hget]; rfl
      have hnext : addAll .none (L.take (k + 1)) = add (addAll .none (L.take k)) x := by rw [htk, addAll_snoc]; rfl
      obtain ⟨⟨c0, c1, c2, c3⟩, -⟩ := cells4 h1
      have i0 : (0 : Int) ≤ (k : Int) := by omega
      have i1 : (k : Int) < (L.length : Int) := by omega
      have H := Lib.hid (And.intro hk (And.intro h2 (And.intro h1 (And.intro hq hnext))))
      clear hk h2 h1 hq hnext htk hget hcell hxe hx
      generalize addAll .none (L.take k) = s at *
      have hS : ∀ w', Keep (fun _ => False) wr w' → Keep (fun _ => False) wr w' ∧ w'.cell? ⟨w.heap.size + 1, 0, none⟩ = some (.int .u64 s.x0) ∧ w'.cell? ⟨w.heap.size + 1, 1, none⟩ = some (.int .u64 s.x1) ∧ w'.cell? ⟨w.heap.size + 1, 2, none⟩ = some (.int .u64 s.x2) ∧ w'.cell? ⟨w.heap.size + 1, 3, none⟩ = some (.int .u64 s.x3) ∧ w'.cell? ⟨g, k, none⟩ = some (.int .i64 x) := fun w' q => by
        obtain ⟨⟨e0, e1, e2, e3⟩, -⟩ := cells4 (H.out.2.2.1.keep q (fun h => h))
        exact ⟨q, e0, e1, e2, e3, (q.cell (a := ⟨g, k, none⟩) (World.block_lt_of_cell? wr _ hcell') (fun h => h)).trans hcell'⟩
      have HS := Lib.hid hS
      clear hS c0 c1 c2 c3
      go_wp2_with fail
      go_region_held3 (fun w' => Keep (fun _ => False) wr w' ∧ w'.cell? ⟨w.heap.size + 1, 0, none⟩ = some (.int .u64 s.x0) ∧ w'.cell? ⟨w.heap.size + 1, 1, none⟩ = some (.int .u64 s.x1) ∧ w'.cell? ⟨w.heap.size + 1, 2, none⟩ = some (.int .u64 s.x2) ∧ w'.cell? ⟨w.heap.size + 1, 3, none⟩ = some (.int .u64 s.x3) ∧ w'.cell? ⟨g, k, none⟩ = some (.int .i64 x)) (first | exact HS.out _ ((Keep.refl _ _).drew) | exact HS.out _ (Keep.trans (And.left (by assumption)) q)) (first
        | (go_at_call 84; refine (rhas_any s x hx2 _).mono ?_; rintro e w1 ⟨rfl, q⟩))
      rename_i hh
      obtain ⟨hk, h2, h1, hq, hnext⟩ := H.out
      have h13 := h1.keep hh.1 (fun h => h)
      have h23 := h2.keep hh.1 (fun h => h)
      have hq3 := hq.trans hh.1
      have hcx := hh.2.2.2.2.2
      cases hhx : s.has x with
      | true =>
        have hn2 : addAll .none (L.take (k + 1)) = s := by rw [hnext, add, if_pos hhx]
        have H3 := Lib.hid (And.intro hk (And.intro h23 (And.intro h13 (And.intro hq3 hn2))))
        clear hh hk h2 h1 hq hnext h13 h23 hq3 hn2 q HS H hcx
        go_wp2_with fail
        go_roundg (L.length - (k + 1))
        case measure => have := H3.out.1; omega
        case rel =>
          obtain ⟨hk, h2, h1, hq, hn⟩ := H3.out
          exact ⟨k + 1, by go_num, by omega, h2, by rw [hn]; exact h1, hq⟩
      | false =>
        have hn2 : addAll .none (L.take (k + 1)) = .of4 fun i => if i = x / 64 then s.w i + 2 ^ (x % 64) else s.w i := by rw [hnext, add, if_neg (by simp [hhx])]
        have hcw := h13.cell (cells_at s (x / 64) (by omega))
        have hfw := h13.frozen (x / 64)
        have H3 := Lib.hid (And.intro hk (And.intro h23 (And.intro h13 (And.intro hq3 hn2))))
        clear hh hk h2 h1 hq hnext h13 h23 hq3 hn2 q HS H
        have j0 : (0 : Int) ≤ (x : Int) / 64 := by omega
        have j1 : (x : Int) / 64 < 4 := by omega
        go_wp2_with fail
        go_region
        go_wp2_with fail
        go_roundg (L.length - (k + 1))
        case measure => have := H3.out.1; omega
        case rel =>
          obtain ⟨hk, h2, h1, hq, hn⟩ := H3.out
          have hwb := wrap_bit (s.w (x / 64)) (x % 64) (ok.w _) (by omega) hhx
          have h9 := h1.set (x / 64) (.int .u64 ((s.w (x / 64) + 2 ^ (x % 64) : Nat) : Int))
          rw [set_word _ _ _ (by omega)] at h9
          have hfe : (fun j => if j = x / 64 then s.w (x / 64) + 2 ^ (x % 64) else s.w j) = (fun i => if i = x / 64 then s.w i + 2 ^ (x % 64) else s.w i) := by
            funext j
            by_cases hj : j = x / 64
            · rw [if_pos hj, if_pos hj, hj]
            · rw [if_neg hj, if_neg hj]
          rw [hfe] at h9
          refine ⟨k + 1, by go_num, by omega, (h2.setOther (p := ⟨w.heap.size + 1, x / 64, none⟩) (by simp) _).drew, ?_, (hq.setCell (p := ⟨w.heap.size + 1, x / 64, none⟩) (fun h => absurd h (by simp)) _).drew⟩
          rw [hn, hwb]
          exact h9.drew
    · have hkl : k = L.length := by omega
      subst hkl
      rw [List.take_length] at h1
      generalize hr : addAll .none L = r at h1
      obtain ⟨⟨c0, c1, c2, c3⟩, -⟩ := cells4 h1
      obtain ⟨⟨d0, d1, d2, d3⟩, f0, f1, f2, f3⟩ := cells4 h2
      have H := Lib.hid (And.intro hr (And.intro h2 hq))
      clear h1 h2 hq hk A1 hr ok HC
      go_wp2
      have a := set4 H.out.2.1 (.int .u64 r.x0) (.int .u64 r.x1) (.int .u64 r.x2) (.int .u64 r.x3)
      have q := keep4 H.out.2.2 (b := w.heap.size) (fun h => absurd h (by simp)) (.int .u64 r.x0) (.int .u64 r.x1) (.int .u64 r.x2) (.int .u64 r.x3)
      generalize World.setCell _ _ _ = W2 at *
      obtain ⟨⟨e0, e1, e2, e3⟩, -⟩ := cells4 a
      exact bodyPost_ret (v := val r) (by simp [results, Try.results62, go_sem, e0, e1, e2, e3]) rfl ⟨by rw [H.out.1], q⟩

end Go.Proofs.Ythcjfgfbeollpaa.Bytes
