/- Add and Clear of a set. -/
import Derived.Test.YtklknkeanmjhnaaSparse
import Derived.Lib.AppendZeros
namespace Go.Proofs.Ytklknkeanmjhnaa.Sparse
open Go.RowKit Go.Proofs.Ytklknkeanmjhnaa.Base Go.Proofs.Ytklknkeanmjhnaa.Meter

/-- What Add does. -/
def addV (n : Nat) (L : List Nat) (x : Int) : List Nat × Bool := if mayV n x && !hasV L x then (L ++ [x.toNat], true) else (L, false)

theorem infoI : (Try.prog.info? 3).map (fun i => (i.zero, i.size, i.bytes)) = some (some (.int .i64 0), 1, 8) := by kernel_rfl

theorem put_eq (cur : Array Value) (i : Nat) (x : Value) (h : i < cur.size) : (cur.toList.take i ++ [x] ++ cur.toList.drop (i + 1)).toArray = cur.setIfInBounds i x := by
  apply Array.ext'
  simp [List.set_eq_take_append_cons_drop, h]

/-- append of one number to a slice that has room. -/
theorem push_room {w : World} {g len cap : Nat} {cur : Array Value} (h : At w g 3 cur) (x : Int) (a : Nat) (ha : w.cell? ⟨a, 0, none⟩ = some (.int .i64 x)) (h1 : len < cap) (h2 : len < cur.size) (ty : TypeId) :
    ∃ w', (Builtin.append_ #[32, 32] ty #[.slice (some ⟨g, 0, none⟩) len cap, .slice (some ⟨a, 0, none⟩) 1 1]).run Try.prog w = .ok (.slice (some ⟨g, 0, none⟩) (len + 1) cap) w' ∧
      At w' g 3 (cur.setIfInBounds len (.int .i64 x)) ∧ Keep (· = g) w w' := by
  obtain ⟨i0, hi0, hz0, hz1, hz2⟩ := info_parts infoI
  have hrun := run_append_room (P := Try.prog) w 32 ty 3 i0 Try.underlying32 hi0 g len cap cur h ⟨a, 0, none⟩ 1 1 [.int .i64 x] (by simp [hz1])
    (fun j u hu => by
      match j, hu with
      | 0, hu => cases hu; exact ha
      | j + 1, hu => simp at hu) (by simp [Value.oneCell']) (by omega) (by simp [hz1]; omega)
  simp only [hz1, Nat.mul_one, List.length_singleton] at hrun
  rw [put_eq cur len _ h2] at hrun
  exact ⟨_, hrun, setRow_heap w g cur _ 3 _ h, ⟨rfl, rfl, rfl, by simp [World.setRow], fun b _ hn => setRow_other w g b _ hn⟩⟩

theorem add_nil (x : Int) (w : World) : Calls Try.prog 34 #[.pointer none, .int .i64 x] w fun e w' => e = .returned (.bool false) ∧ w = w' := by
  go_enter Try.func34, Try.ntmps34
  go_wp2
  go_ret
  exact ⟨rfl, rfl⟩

set_option maxRecDepth 100000 in
theorem add_new (b g n : Nat) (L : List Nat) (k : Nat) (w : World) (h : St w b g n L) (hk : k < n) (hL : k ∉ L) :
    Calls Try.prog 34 #[ptr b, .int .i64 k] w fun e w' => e = .returned (.bool true) ∧ St w' b g n (L ++ [k]) ∧ Keep (fun i => i = b ∨ i = g) w w' := by
  have hm := may_any b g n L k w h
  rw [show mayV n k = true from by simp [mayV, hk]] at hm
  have hh := has_any b g n L k w h
  rw [show hasV L k = false from by simp [hasV, hL]] at hh
  have HH := Lib.hid (And.intro hm hh)
  clear hm hh
  have hlen : L.length < n := by
    have := nodup_len n (L ++ [k]) (by rw [List.nodup_append]; exact ⟨h.nodup, by simp, fun a ha c hc e => by simp at hc; subst hc; subst e; exact hL ha⟩) (by intro y hy; rcases List.mem_append.1 hy with hy | hy; exact h.lt y hy; simp at hy; omega)
    simp at this
    omega
  obtain ⟨h1, h2, h3, o, p, cap, cp, ha, hr⟩ := h
  obtain ⟨rfl, rfl, rfl, rfl, r5, cur, r6, r7, r8, r9⟩ := hr (by omega)
  have k0 : w.cell? ⟨b, 0, none⟩ = some (.slice (some ⟨g, 0, none⟩) L.length n) := ha.cell rfl
  have k1 : w.cell? ⟨b, 1, none⟩ = some (.slice (some ⟨g, n, none⟩) n n) := ha.cell rfl
  obtain ⟨old, ho⟩ := r8 (n + k) (by omega)
  have k2 : w.cell? ⟨g, n + k, none⟩ = some (.int .i64 old) := r6.cell ho
  have f2 := r6.frozen (n + k)
  have hk' : (k : Int) < n := by omega
  go_enter Try.func34, Try.ntmps34
  go_wp2_with fail
  refine HH.out.1.mono ?_
  rintro e w1 ⟨rfl, rfl⟩
  go_wp2_with fail
  refine HH.out.2.mono ?_
  rintro e w1 ⟨rfl, rfl⟩
  go_wp2_with fail
  go_region
  have a1 := (r6.set (n + k) (.int .i64 L.length)).drew
  have b1 : At (w.setCell ⟨g, n + k, none⟩ (.int .i64 L.length)).drew b 101 _ := (ha.setOther (p := ⟨g, n + k, none⟩) (Ne.symm r5) (.int .i64 L.length)).drew
  have q1 : Keep (fun i => i = b ∨ i = g) w (w.setCell ⟨g, n + k, none⟩ (.int .i64 L.length)).drew := ((Keep.refl (fun i => i = b ∨ i = g) w).setCell (fun _ => .inr rfl) _).drew
  clear k0 k1 k2 f2
  generalize (w.setCell ⟨g, n + k, none⟩ (.int .i64 L.length)).drew = W at *
  have a2 := a1.alloc (.cells #[.int .i64 k] 3)
  have c2 := (At.new W #[.int .i64 k] 3).cell (o := 0) rfl
  have b2 := b1.alloc (.cells #[.int .i64 k] 3)
  have q2 := q1.alloc (.cells #[.int .i64 k] 3)
  obtain ⟨W3, hrun, a3, q3⟩ := push_room (len := L.length) (cap := n) a2 k W.heap.size c2 hlen (by simp [r7]; omega) 32
  have b3 := b2.keep q3 (Ne.symm r5)
  have q4 := q2.trans (q3.mono fun _ h => .inr h)
  have k0 : W.cell? ⟨b, 0, none⟩ = some (.slice (some ⟨g, 0, none⟩) L.length n) := b1.cell rfl
  have f0 := b3.frozen 0
  have k3 : W3.cell? ⟨b, 0, none⟩ = some (.slice (some ⟨g, 0, none⟩) L.length n) := b3.cell rfl
  have hnew : St (W3.setCell ⟨b, 0, none⟩ (.slice (some ⟨g, 0, none⟩) (L.length + 1) n)) b g n (L ++ [k]) := by
    refine ⟨?_, ?_, h3, _, _, _, _, (by simpa using b3.set 0 (.slice (some ⟨g, 0, none⟩) (L.length + 1) n)), fun _ => ⟨rfl, rfl, rfl, rfl, r5, _, a3.setOther r5 _, by simp [r7], ?_, ?_⟩⟩
    · rw [List.nodup_append]; exact ⟨h1, by simp, fun a ha c hc e => by simp at hc; subst hc; subst e; exact hL ha⟩
    · intro y hy; rcases List.mem_append.1 hy with hy | hy; exact h2 y hy; simp at hy; omega
    · intro j hj
      by_cases e1 : j = L.length
      · subst e1; exact ⟨(k : Int), by rw [Array.getElem?_setIfInBounds, if_pos rfl, if_pos (by rw [Array.size_setIfInBounds]; omega)]⟩
      · by_cases e2 : j = n + k
        · subst e2; exact ⟨(L.length : Int), by rw [Array.getElem?_setIfInBounds, if_neg (by omega), Array.getElem?_setIfInBounds, if_pos rfl, if_pos (by omega)]⟩
        · obtain ⟨u, hu⟩ := r8 j hj
          exact ⟨u, by rw [Array.getElem?_setIfInBounds, if_neg (by omega), Array.getElem?_setIfInBounds, if_neg (by omega)]; exact hu⟩
    · intro i x hx
      by_cases e1 : i < L.length
      · rw [List.getElem?_append_left e1] at hx
        obtain ⟨c1, c3⟩ := r9 i x hx
        have hxm : x ∈ L := List.mem_of_getElem? hx
        have e4 : x ≠ k := fun e => hL (e ▸ hxm)
        have := h2 x hxm
        refine ⟨?_, ?_⟩
        · rw [Array.getElem?_setIfInBounds, if_neg (by omega), Array.getElem?_setIfInBounds, if_neg (by omega)]; exact c1
        · rw [Array.getElem?_setIfInBounds, if_neg (by omega), Array.getElem?_setIfInBounds, if_neg (by omega)]; exact c3
      · have e2 : i = L.length := by
          have := (List.getElem?_eq_some_iff.1 hx).1
          simp at this
          omega
        subst e2
        have e3 : x = k := by simpa using hx.symm
        subst e3
        refine ⟨?_, ?_⟩
        · rw [Array.getElem?_setIfInBounds, if_pos rfl, if_pos (by simp [r7]; omega)]
        · rw [Array.getElem?_setIfInBounds, if_neg (by omega), Array.getElem?_setIfInBounds, if_pos rfl, if_pos (by omega)]
  have HN := Lib.hid (And.intro hnew (q4.setCell (p := ⟨b, 0, none⟩) (fun _ => .inl rfl) (.slice (some ⟨g, 0, none⟩) (L.length + 1) n)))
  clear hnew q4 q3 q2 q1 a1 a2 a3 b1 b2 b3 c2 r8 r9 r7 r6 hr ha h1 h2 ho hk' hlen
  go_wp2_with (at_builtin; refine Lib.wpList_append_run _ rfl _ _ _ _ rfl _ _ rfl rfl _ _ hrun ?_)
  go_ret
  exact ⟨rfl, HN.out⟩

theorem hasV_iff {L : List Nat} {k : Nat} : hasV L k = true ↔ k ∈ L := by simp [hasV]

theorem add_any (b g n : Nat) (L : List Nat) (x : Int) (w : World) (h : St w b g n L) :
    Calls Try.prog 34 #[ptr b, .int .i64 x] w fun e w' => e = .returned (.bool (addV n L x).2) ∧ St w' b g n (addV n L x).1 ∧ Keep (fun i => i = b ∨ i = g) w w' := by
  have hm := may_any b g n L x w h
  have hh := has_any b g n L x w h
  by_cases e1 : mayV n x = true
  · obtain ⟨k, rfl⟩ : ∃ k : Nat, x = k := ⟨x.toNat, by simp [mayV] at e1; omega⟩
    by_cases e2 : hasV L k = true
    · rw [show addV n L k = (L, false) from by simp [addV, e2]]
      rw [e1] at hm
      rw [e2] at hh
      have HH := Lib.hid (And.intro hm (And.intro hh h))
      clear hm hh h
      go_enter Try.func34, Try.ntmps34
      go_wp2_with fail
      refine HH.out.1.mono ?_
      rintro e w1 ⟨rfl, rfl⟩
      go_wp2_with fail
      refine HH.out.2.1.mono ?_
      rintro e w1 ⟨rfl, rfl⟩
      go_wp2
      go_ret
      exact ⟨rfl, HH.out.2.2, Keep.refl _ _⟩
    · rw [show addV n L k = (L ++ [k], true) from by simp [addV, e1, e2]]
      exact add_new b g n L k w h (by simpa [mayV] using e1) (fun hc => e2 (hasV_iff.2 hc))
  · rw [show addV n L x = (L, false) from by simp [addV, e1]]
    rw [show mayV n x = false from by simpa using e1] at hm
    have HH := Lib.hid (And.intro hm h)
    clear hm h
    go_enter Try.func34, Try.ntmps34
    go_wp2_with fail
    refine HH.out.1.mono ?_
    rintro e w1 ⟨rfl, rfl⟩
    go_wp2
    go_ret
    exact ⟨rfl, HH.out.2, Keep.refl _ _⟩

theorem clear_nil (w : World) : Calls Try.prog 35 #[.pointer none] w fun e w' => e = .returned (.tuple #[]) ∧ w = w' := by
  go_enter Try.func35, Try.ntmps35
  go_wp2
  refine bodyPost_ret (results_none rfl _ _ _) rfl ?_
  exact ⟨rfl, rfl⟩

theorem clear_any (b g n : Nat) (L : List Nat) (w : World) (h : St w b g n L) :
    Calls Try.prog 35 #[ptr b] w fun e w' => e = .returned (.tuple #[]) ∧ St w' b g n [] ∧ Keep (fun i => i = b ∨ i = g) w w' := by
  have hlen := h.len_le
  obtain ⟨h1, h2, h3, o, p, cap, cp, ha, hr⟩ := h
  have k0 : w.cell? ⟨b, 0, none⟩ = some (.slice o L.length cap) := ha.cell rfl
  have f0 := ha.frozen 0
  have hnew : St (w.setCell ⟨b, 0, none⟩ (.slice o 0 cap)) b g n [] := by
    refine ⟨by simp, by simp, h3, o, p, cap, cp, (by simpa using ha.set 0 (.slice o 0 cap)), fun hn => ?_⟩
    obtain ⟨r1, r2, r3, r4, r5, cur, r6, r7, r8, r9⟩ := hr hn
    exact ⟨r1, r2, r3, r4, r5, cur, r6.setOther r5 _, r7, r8, by simp⟩
  have HN := Lib.hid (And.intro hnew ((Keep.refl (fun i => i = b ∨ i = g) w).setCell (p := ⟨b, 0, none⟩) (fun _ => .inl rfl) (.slice o 0 cap)))
  clear hnew ha hr h1 h2
  go_enter Try.func35, Try.ntmps35
  go_wp2
  go_end0
  exact ⟨rfl, HN.out⟩

end Go.Proofs.Ytklknkeanmjhnaa.Sparse
