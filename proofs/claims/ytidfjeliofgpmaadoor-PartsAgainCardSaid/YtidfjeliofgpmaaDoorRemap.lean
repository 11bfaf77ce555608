/- The document's Remap. -/
import Derived.Test.YtidfjeliofgpmaaDoorSetL
import Derived.Deep.CutBlock
import Derived.Deep.DeepCutAuto
import Derived.Deep.WholeRow
namespace Go.Proofs.YtidfjeliofgpmaaDoor.SetL
open Go.RowKit Go.Proofs.YtidfjeliofgpmaaDoor.Base Go.Proofs.YtidfjeliofgpmaaDoor.Sets Go.Proofs.YtidfjeliofgpmaaDoor.Bytes Go.Proofs.YtidfjeliofgpmaaDoor.Cls

/-- 256 numbers in a row. -/
def arr (f : Nat → Int) : Array Value := ((List.range 256).map fun i => Value.int .i64 (f i)).toArray
theorem arr_size (f : Nat → Int) : (arr f).size = 256 := by simp [arr]
theorem arr_at (f : Nat → Int) (i : Nat) (h : i < 256) : (arr f)[i]? = some (.int .i64 (f i)) := by simp [arr, h]
theorem arr_set (f : Nat → Int) (i : Nat) (h : i < 256) (v : Int) : (arr f).setIfInBounds i (.int .i64 v) = arr (fun j => if j = i then v else f j) := by
  apply Array.ext_getElem?
  intro j
  by_cases hj : j < 256
  · rw [Array.getElem?_setIfInBounds, arr_at _ _ hj, arr_at _ _ hj, arr_size]
    by_cases e : i = j
    · subst e
      simp [h]
    · have e' : ¬ j = i := fun x => e x.symm
      simp [e, e']
  · rw [Array.getElem?_eq_none (by simp [arr_size]; omega), Array.getElem?_eq_none (by rw [arr_size]; omega)]
theorem arr_one (f : Nat → Int) : (arr f).all (·.oneCell') = true := by
  simp [arr, Value.oneCell']
theorem arr_congr {f g : Nat → Int} (h : ∀ i, i < 256 → f i = g i) : arr f = arr g := by
  unfold arr
  congr 1
  exact List.map_congr_left fun i hi => by rw [h i (List.mem_range.1 hi)]

theorem alike_key (L : List ST) (x y : Nat) : alike L x y = decide (key L x = key L y) := by
  rw [Bool.eq_iff_iff, decide_eq_true_eq, key_iff]
  simp [alike]

theorem zeroR : (Tryd.prog.info? 26).map (fun i => (i.zero, i.size)) = some (some (.agg (arr fun _ => 0)), 256) := by kernel_rfl
theorem sizeR : (Tryd.prog.info? 26).map (·.size) = some 256 := by kernel_rfl
theorem run_zeroR (w : World) : (zeroValue 26).run Tryd.prog w = .ok (.agg (arr fun _ => 0)) w := by
  cases h : Tryd.prog.info? 26 with
  | none =>
    have hz := zeroR
    rw [h] at hz
    simp at hz
  | some i =>
    have hz := zeroR
    rw [h] at hz
    simp only [Option.map_some] at hz
    injection hz with hz
    injection hz with hz _
    simp [zeroValue, typeInfo, h, hz, Sem.run_bind]

/-- What Remap's row holds when k bytes are done; .. with v at one place. -/
def rm (L : List ST) (k i : Nat) : Int := if i < k then (cls (key L) i : Int) else 0
def upd (f : Nat → Int) (k : Nat) (v : Int) (j : Nat) : Int := if j = k then v else f j
theorem upd_upd (f : Nat → Int) (k : Nat) (u v : Int) : upd (upd f k u) k v = upd f k v := by
  funext j
  unfold upd
  split <;> rfl
theorem upd_self (f : Nat → Int) (k : Nat) (v : Int) : upd f k v k = v := by simp [upd]
theorem upd_rm (L : List ST) (k a : Nat) (v : Int) (h : a < k) : upd (rm L k) k v a = cls (key L) a := by
  unfold upd rm
  rw [if_neg (by omega), if_pos h]
theorem upd_done (L : List ST) (k : Nat) : upd (rm L k) k (cls (key L) k) = rm L (k + 1) := by
  funext j
  unfold upd rm
  by_cases h : j = k
  · subst h
    rw [if_pos rfl, if_pos (by omega)]
  · rw [if_neg h]
    by_cases h' : j < k
    · rw [if_pos h', if_pos (by omega)]
    · rw [if_neg h', if_neg (by omega)]
theorem arr_upd (f : Nat → Int) (k : Nat) (h : k < 256) (v : Int) : (arr f).setIfInBounds k (.int .i64 v) = arr (upd f k v) := arr_set f k h v

set_option maxRecDepth 100000 in
theorem remap_any (L : List ST) (a : Option Addr) (cap : Nat) (hl : L.length ≤ 2097152) (w : World) (hL : SL w a L) :
    Calls Tryd.prog 10 #[.slice a L.length cap] w fun e w' => e = .returned (.tuple #[.agg (arr fun i => (cls (key L) i : Int)), .int .i64 (ncl (key L))]) ∧ Keep (fun _ => False) w w' := by
  have H0 := Lib.hid hL
  clear hL
  have hz := run_zeroR
  obtain ⟨zs, hzs⟩ : ∃ zs, zs = arr fun _ => 0 := ⟨_, rfl⟩
  rw [← hzs] at hz
  have HZ := Lib.hid hzs
  clear hzs
  go_enter Tryd.func10, Tryd.ntmps10
  go_wp2_with fail
  have a1 := (At.new w zs 26).alloc (.cells zs 26)
  have a2 := At.new (w.alloc (.cells zs 26)) zs 26
  have q := ((Keep.refl (fun _ => False) w).alloc (.cells zs 26)).alloc (.cells zs 26)
  rw [show (w.alloc (.cells zs 26)).heap.size = w.heap.size + 1 from by simp] at a2
  have A1 := Lib.hid (And.intro a1 (And.intro a2 q))
  clear a1 a2 q hz
  generalize ((w.alloc (.cells zs 26)).alloc (.cells zs 26)) = W at *
  go_loopg [5, 6] 256 (fun gg n i wr => ∃ k : Nat, n = .int .i64 (cnt (first (key L)) k) ∧ i = .int .i64 k ∧ k + gg = 256 ∧ At wr w.heap.size 26 zs ∧ At wr (w.heap.size + 1) 26 (arr (rm L k)) ∧ Keep (fun _ => False) w wr)
  case atStart => exact ⟨0, rfl, rfl, rfl, A1.out.1, by rw [show arr (rm L 0) = zs from HZ.out.symm]; exact A1.out.2.1, A1.out.2.2⟩
  case round =>
    obtain ⟨k, rfl, rfl, hk, ha, hb, hq⟩ := hrel
    clear A1
    by_cases hlt : k < 256
    · have hc := hb.cell (arr_at _ k hlt)
      have hf := hb.frozen k
      have hlt' : (k : Int) < 256 := by omega
      have b1 := hb.set k (.int .i64 (-1))
      rw [arr_upd _ _ hlt] at b1
      have H := Lib.hid (And.intro hk (And.intro (ha.setOther (p := ⟨w.heap.size + 1, k, none⟩) (by simp) (.int .i64 (-1))) (And.intro b1 (hq.setCell (p := ⟨w.heap.size + 1, k, none⟩) (fun h => absurd h (by simp)) (.int .i64 (-1))))))
      clear hk ha hb hq b1
      go_wp2_with fail
      clear hc hf
      generalize World.setCell wr _ _ = W1 at *
      go_loopg [7] k (fun gg i wx => ∃ (x : Nat) (v : Int), i = .int .i64 x ∧ x + gg = k ∧ At wx w.heap.size 26 zs ∧ At wx (w.heap.size + 1) 26 (arr (upd (rm L k) k v)) ∧ Keep (fun _ => False) w wx ∧ (v = -1 ∧ (∀ y, y < x → alike L y k = false) ∨ v = cls (key L) k ∧ rep (key L) k < k))
      case atStart => exact ⟨0, -1, rfl, by omega, H.out.2.1, H.out.2.2.1, H.out.2.2.2, .inl ⟨rfl, fun y hy => absurd hy (by omega)⟩⟩
      case round =>
        obtain ⟨x, v, rfl, hxk, ha, hb, hq, hv⟩ := hrel
        have hcv := hb.cell (arr_at _ k hlt)
        rw [upd_self] at hcv
        have hf := hb.frozen k
        rcases hv with ⟨rfl, hv⟩ | ⟨rfl, hv⟩
        · by_cases hxl : x < k
          · have hx' : (x : Int) < k := by omega
            have HH := Lib.hid (And.intro hxk (And.intro ha (And.intro hb (And.intro hq hv))))
            clear hxk ha hb hq hv
            go_wp2_with fail
            refine (alike_any L a cap x k hl (by omega) hlt wr (H0.out.keep HH.out.2.2.2.1 (fun _ _ h => h))).mono ?_
            rintro e w2 ⟨rfl, q2⟩
            obtain ⟨hxk, ha, hb, hq, hv⟩ := HH.out
            have ha2 := ha.keep q2 (fun h => h)
            have hb2 := hb.keep q2 (fun h => h)
            have hq2 := hq.trans q2
            have hck := hb2.cell (arr_at _ k hlt)
            have hcx := hb2.cell (arr_at _ x (by omega))
            rw [upd_self] at hck
            rw [upd_rm L k x _ hxl] at hcx
            have hf2 := hb2.frozen k
            clear HH hcv hf ha hb hq q2
            cases he : alike L x k with
            | true =>
              have hK : key L x = key L k := by rw [alike_key] at he; exact of_decide_eq_true he
              have b1 := hb2.set k (.int .i64 (cls (key L) x : Int))
              rw [arr_upd _ _ hlt, upd_upd, cls_eq (key L) hK] at b1
              have hr := Nat.lt_of_le_of_lt (rep_least (key L) hK) hxl
              rw [cls_eq (key L) hK] at hcx
              have HH := Lib.hid (And.intro hxk (And.intro (ha2.setOther (p := ⟨w.heap.size + 1, k, none⟩) (by simp) (.int .i64 (cls (key L) k : Int))) (And.intro b1 (And.intro (hq2.setCell (p := ⟨w.heap.size + 1, k, none⟩) (fun h => absurd h (by simp)) (.int .i64 (cls (key L) k : Int))) hr))))
              clear hxk ha2 hb2 hq2 b1 hr hv he hK
              go_wp2_with fail
              go_roundg (k - (x + 1))
              case measure => have := HH.out.1; omega
              case rel => exact ⟨x + 1, _, by go_num, by have := HH.out.1; omega, HH.out.2.1, HH.out.2.2.1, HH.out.2.2.2.1, .inr ⟨rfl, HH.out.2.2.2.2⟩⟩
            | false =>
              have HH := Lib.hid (And.intro hxk (And.intro ha2 (And.intro hb2 (And.intro hq2 (And.intro hv he)))))
              clear hxk ha2 hb2 hq2 hv he hcx
              go_wp2_with fail
              go_roundg (k - (x + 1))
              case measure => have := HH.out.1; omega
              case rel =>
                refine ⟨x + 1, -1, by go_num, by have := HH.out.1; omega, HH.out.2.1, HH.out.2.2.1, HH.out.2.2.2.1, .inl ⟨rfl, fun y hy => ?_⟩⟩
                rcases Nat.lt_succ_iff_lt_or_eq.1 hy with h | rfl
                · exact HH.out.2.2.2.2.1 y h
                · exact HH.out.2.2.2.2.2
          · have hxe : x = k := by omega
            subst hxe
            have hfi : first (key L) x = true := (first_iff _ _).2 fun y hy e => by
              have := hv y hy
              rw [alike_key] at this
              exact of_decide_eq_false this e
            have hcn := cls_first (key L) hfi
            have hn1 : cnt (first (key L)) (x + 1) = cnt (first (key L)) x + 1 := by
              show cnt (first (key L)) x + (first (key L) x).toNat = _
              rw [hfi]
              rfl
            have hle := cnt_le (first (key L)) x
            have b1 := hb.set x (.int .i64 (cls (key L) x : Int))
            rw [arr_upd _ _ hlt, upd_upd, upd_done, hcn] at b1
            have HH := Lib.hid (And.intro hn1 (And.intro (ha.setOther (p := ⟨w.heap.size + 1, x, none⟩) (by simp) (.int .i64 (cnt (first (key L)) x : Int))) (And.intro b1 (hq.setCell (p := ⟨w.heap.size + 1, x, none⟩) (fun h => absurd h (by simp)) (.int .i64 (cnt (first (key L)) x : Int))))))
            have hxx : ¬ (x : Int) < x := by omega
            clear ha hb hq hv b1 hfi hn1 hcn hxl
            generalize hN : cnt (first (key L)) x = N at *
            have hN1 : IntKind.i64.wrap ((N : Int) + 1) = (N : Int) + 1 := by rw [IntKind.wrap_i64]; omega
            go_wp2_with fail
            go_roundg (256 - (x + 1))
            case measure => have := H.out.1; omega
            case rel => exact ⟨x + 1, by rw [HH.out.1]; go_num, by go_num, by have := H.out.1; omega, HH.out.2.1, HH.out.2.2.1, HH.out.2.2.2⟩
        · have hnf : first (key L) k = false := by
            unfold first
            exact decide_eq_false (by omega)
          have hn1 : cnt (first (key L)) (k + 1) = cnt (first (key L)) k := by
            show cnt (first (key L)) k + (first (key L) k).toNat = _
            rw [hnf]
            rfl
          rw [upd_done] at hb
          have HH := Lib.hid (And.intro hxk (And.intro hn1 (And.intro ha (And.intro hb hq))))
          clear hxk ha hb hq hv hnf hn1
          generalize hC : cls (key L) k = C at *
          have hC0 : ¬ (C : Int) < 0 := by omega
          by_cases hxl : x < k
          · have hx' : (x : Int) < k := by omega
            go_wp2_with fail
            go_roundg (256 - (k + 1))
            case measure => have := H.out.1; omega
            case rel => exact ⟨k + 1, by rw [HH.out.2.1], by go_num, by have := H.out.1; omega, HH.out.2.2.1, HH.out.2.2.2.1, HH.out.2.2.2.2⟩
          · have hx' : ¬ (x : Int) < k := by omega
            go_wp2_with fail
            go_roundg (256 - (k + 1))
            case measure => have := H.out.1; omega
            case rel => exact ⟨k + 1, by rw [HH.out.2.1], by go_num, by have := H.out.1; omega, HH.out.2.2.1, HH.out.2.2.2.1, HH.out.2.2.2.2⟩
    · have hk256 : k = 256 := by omega
      subst hk256
      have hrm : arr (rm L 256) = arr (fun i => (cls (key L) i : Int)) := arr_congr fun i hi => by
        unfold rm
        rw [if_pos hi]
      rw [hrm] at hb
      have h1 := arr_one (fun i => (cls (key L) i : Int))
      have hs1 := arr_size (fun i => (cls (key L) i : Int))
      have hz1 : zs.size = 256 := by rw [HZ.out, arr_size]
      generalize hM : arr (fun i => (cls (key L) i : Int)) = M at *
      have hi1 : (Tryd.prog.info? 26).map (·.size) = some M.size := by rw [hs1]; exact sizeR
      have hla : wr.heap[w.heap.size]? = some (.cells zs 26 (0, 0)) := ha
      have hlb : wr.heap[w.heap.size + 1]? = some (.cells M 26 (0, 0)) := hb
      have hq2 : Keep (fun _ => False) w (wr.setRow w.heap.size M) := ⟨hq.os, hq.tape, hq.output, by rw [setRow_size]; exact hq.size, fun k hk _ => (setRow_other wr w.heap.size k M (by omega)).trans (hq.block k hk (fun h => h))⟩
      have hnew : (wr.setRow w.heap.size M).heap[w.heap.size]? = some (.cells M 26 (0, 0)) := setRow_heap wr w.heap.size zs M 26 (0, 0) hla
      have H := Lib.hid (And.intro hla (And.intro hlb (And.intro hi1 (And.intro h1 (And.intro (hz1.trans hs1.symm) (And.intro hq2 hnew))))))
      have HM := Lib.hid hM
      clear ha hb hq hk hrm h1 hs1 hz1 hi1 hla hlb hq2 hnew hM
      go_wp2_with (first
        | (refine wpList_load_row rfl 26 _ rfl (w.heap.size + 1) rfl 26 M (0, 0) _ H.out.2.1 Tryd.underlying26 rfl H.out.2.2.1 ?_)
        | (refine wpList_store_row rfl 26 _ _ rfl w.heap.size M rfl rfl 26 zs H.out.1 H.out.2.2.1 H.out.2.2.2.2.1 H.out.2.2.2.1 ?_))
      have hr := run_loadVar_row (P := Tryd.prog) (wr.setRow w.heap.size M) w.heap.size 26 26 M (0, 0) _ H.out.2.2.2.2.2.2 Tryd.underlying26 rfl H.out.2.2.1
      exact bodyPost_ret (v := .tuple #[.agg M, .int .i64 (ncl (key L))]) (by simp [results, Tryd.results10, asAddr, hr, ncl]) rfl ⟨by rw [HM.out], H.out.2.2.2.2.2.1⟩
end Go.Proofs.YtidfjeliofgpmaaDoor.SetL
