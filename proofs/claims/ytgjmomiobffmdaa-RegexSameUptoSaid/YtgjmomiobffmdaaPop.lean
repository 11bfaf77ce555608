/- Plain mathematics: the count of a word's bits, summed in halves (as package math/bits does), is their number. Nothing here names a program. -/
import Derived.Test.YtgjmomiobffmdaaSets
namespace Go.Proofs.Ytgjmomiobffmdaa.Pop
open Go.Proofs.Ytgjmomiobffmdaa.Sets

/-- k bytes c. -/
def M (c : Nat) : Nat → Nat
  | 0 => 0
  | k + 1 => c + 256 * M c k

theorem M_succ (c k : Nat) : M c (k + 1) = c + 256 * M c k := rfl

theorem and_split (a c y m : Nat) (ha : a < 256) (hc : c < 256) : (a + 256 * y) &&& (c + 256 * m) = (a &&& c) + 256 * (y &&& m) := by
  have e1 : ((a + 256 * y) &&& (c + 256 * m)) % 2 ^ 8 = a &&& c := by
    rw [Nat.and_mod_two_pow]
    have h1 : (a + 256 * y) % 2 ^ 8 = a := by omega
    have h2 : (c + 256 * m) % 2 ^ 8 = c := by omega
    rw [h1, h2]
  have e2 : ((a + 256 * y) &&& (c + 256 * m)) / 2 ^ 8 = y &&& m := by
    rw [Nat.and_div_two_pow]
    have h1 : (a + 256 * y) / 2 ^ 8 = y := by omega
    have h2 : (c + 256 * m) / 2 ^ 8 = m := by omega
    rw [h1, h2]
  omega

/-- Byte by byte: what the three first steps make of it. -/
def f1 (a : Nat) : Nat := (a / 2 &&& 85) + (a &&& 85)
def f2 (a : Nat) : Nat := (a / 4 &&& 51) + (a &&& 51)
def f3 (a : Nat) : Nat := (a / 16 + a) &&& 15

def s1 (k x : Nat) : Nat := (x / 2 &&& M 85 k) + (x &&& M 85 k)
def s2 (k x : Nat) : Nat := (x / 4 &&& M 51 k) + (x &&& M 51 k)
def s3 (k x : Nat) : Nat := (x / 16 + x) &&& M 15 k

theorem f1_lt (a : Nat) : f1 a < 256 := by
  unfold f1
  have := Nat.and_le_right (n := a / 2) (m := 85)
  have := Nat.and_le_right (n := a) (m := 85)
  omega
theorem f2_lt (a : Nat) : f2 a < 256 := by
  unfold f2
  have := Nat.and_le_right (n := a / 4) (m := 51)
  have := Nat.and_le_right (n := a) (m := 51)
  omega

theorem low1 : ∀ a, a < 256 → ∀ d, d < 2 → (a / 2 + 128 * d) &&& 85 = a / 2 &&& 85 := by decide +kernel
theorem low2 : ∀ a, a < 256 → ∀ d, d < 4 → (a / 4 + 64 * d) &&& 51 = a / 4 &&& 51 := by decide +kernel
theorem nib2 : ∀ a, a < 256 → f2 (f1 a) / 16 ≤ 4 ∧ f2 (f1 a) % 16 ≤ 4 := by decide +kernel
theorem low3 : ∀ a, a < 256 → ∀ d, d < 5 → (f2 (f1 a) / 16 + 16 * d + f2 (f1 a)) &&& 15 = f3 (f2 (f1 a)) := by decide +kernel
theorem all3 : ∀ a, a < 256 → f3 (f2 (f1 a)) = cnt a.testBit 8 := by decide +kernel

theorem s1_split (k a y : Nat) (ha : a < 256) : s1 (k + 1) (a + 256 * y) = f1 a + 256 * s1 k y := by
  unfold s1 f1
  rw [M_succ]
  have e : (a + 256 * y) / 2 = (a / 2 + 128 * (y % 2)) + 256 * (y / 2) := by omega
  rw [e, and_split _ _ _ _ (by omega) (by decide), and_split _ _ _ _ ha (by decide), low1 a ha _ (by omega)]
  omega
theorem s2_split (k a y : Nat) (ha : a < 256) : s2 (k + 1) (a + 256 * y) = f2 a + 256 * s2 k y := by
  unfold s2 f2
  rw [M_succ]
  have e : (a + 256 * y) / 4 = (a / 4 + 64 * (y % 4)) + 256 * (y / 4) := by omega
  rw [e, and_split _ _ _ _ (by omega) (by decide), and_split _ _ _ _ ha (by decide), low2 a ha _ (by omega)]
  omega

theorem low4 : ∀ k y, s2 k (s1 k y) % 16 ≤ 4
  | 0, y => by simp [s2, M]
  | k + 1, y => by
    have e : y = y % 256 + 256 * (y / 256) := by omega
    have ha : y % 256 < 256 := by omega
    rw [e, s1_split _ _ _ ha, s2_split _ _ _ (f1_lt _)]
    have := (nib2 _ ha).2
    omega

theorem s3_split (k a y : Nat) (ha : a < 256) : s3 (k + 1) (s2 (k + 1) (s1 (k + 1) (a + 256 * y))) = f3 (f2 (f1 a)) + 256 * s3 k (s2 k (s1 k y)) := by
  rw [s1_split _ _ _ ha, s2_split _ _ _ (f1_lt _)]
  have h4 := low4 k y
  have hn := nib2 a ha
  have hlt := f2_lt (f1 a)
  have hl := low3 a ha (s2 k (s1 k y) % 16) (by omega)
  generalize s2 k (s1 k y) = z at *
  generalize f2 (f1 a) = u at *
  unfold s3
  rw [M_succ]
  have e : (u + 256 * z) / 16 + (u + 256 * z) = (u / 16 + 16 * (z % 16) + u) + 256 * (z / 16 + z) := by omega
  rw [e, and_split _ _ _ _ (by omega) (by decide), hl]

/-- The bytes' counts, each in a byte of its own. -/
def lanes : Nat → Nat → Nat
  | 0, _ => 0
  | k + 1, x => cnt (x % 256).testBit 8 + 256 * lanes k (x / 256)

theorem lanes_succ (k x : Nat) : lanes (k + 1) x = cnt (x % 256).testBit 8 + 256 * lanes k (x / 256) := rfl

theorem s3_lanes : ∀ k x, s3 k (s2 k (s1 k x)) = lanes k x
  | 0, x => by simp [s3, M, lanes]
  | k + 1, x => by
    have e : x = x % 256 + 256 * (x / 256) := by omega
    have ha : x % 256 < 256 := by omega
    rw [e, s3_split _ _ _ ha, all3 _ ha, s3_lanes k (x / 256)]
    rw [lanes_succ]
    have e1 : (x % 256 + 256 * (x / 256)) % 256 = x % 256 := by omega
    have e2 : (x % 256 + 256 * (x / 256)) / 256 = x / 256 := by omega
    rw [e1, e2]

theorem cnt8 (x j : Nat) : cnt (x / 256 ^ j % 256).testBit 8 = cnt (fun i => x.testBit (8 * j + i)) 8 := cnt_congr fun b hb => by
  have e : (256 : Nat) ^ j = 2 ^ (8 * j) := by rw [Nat.pow_mul]
  have e2 : (256 : Nat) = 2 ^ 8 := rfl
  rw [e2, Nat.testBit_mod_two_pow, ← e2, e, Nat.testBit_div_two_pow]
  simp [hb, Nat.add_comm]

theorem pc_bytes (x : Nat) : pc x = cnt (x / 256 ^ 0 % 256).testBit 8 + cnt (x / 256 ^ 1 % 256).testBit 8 + cnt (x / 256 ^ 2 % 256).testBit 8 + cnt (x / 256 ^ 3 % 256).testBit 8 + cnt (x / 256 ^ 4 % 256).testBit 8 + cnt (x / 256 ^ 5 % 256).testBit 8 + cnt (x / 256 ^ 6 % 256).testBit 8 + cnt (x / 256 ^ 7 % 256).testBit 8 := by
  simp only [cnt8]
  have e : ∀ n, cnt x.testBit (8 * (n + 1)) = cnt x.testBit (8 * n) + cnt (fun i => x.testBit (8 * n + i)) 8 := fun n => cnt_add x.testBit (8 * n) 8
  unfold pc
  rw [show (64 : Nat) = 8 * (7 + 1) from rfl, e 7, e 6, e 5, e 4, e 3, e 2, e 1, e 0]
  simp [cnt]

theorem m85 : M 85 8 = 6148914691236517205 := by decide +kernel
theorem m51 : M 51 8 = 3689348814741910323 := by decide +kernel
theorem m15 : M 15 8 = 1085102592571150095 := by decide +kernel

theorem lane1 {c0 c1 t1 t2 z : Nat} (h0 : c0 ≤ 8) (e0 : z = c0 + 256 * t1) (e1 : t1 = c1 + 256 * t2) : z + z / 256 = (c0 + c1) + 256 * (t1 + t2) := by
  have : z / 256 = t1 := by omega
  omega
theorem lane2 {d0 d1 d2 u1 u2 u3 y : Nat} (h0 : d0 ≤ 16) (h1 : d1 ≤ 16) (e0 : y = d0 + 256 * u1) (e1 : u1 = d1 + 256 * u2) (e2 : u2 = d2 + 256 * u3) : y + y / 65536 = (d0 + d2) + 256 * (u1 + u3) := by
  have : y / 65536 = u2 := by omega
  omega
theorem lane3 {e0 e1 e2 e3 e4 v1 v2 v3 v4 v5 y : Nat} (h0 : e0 ≤ 32) (h1 : e1 ≤ 32) (h2 : e2 ≤ 32) (h3 : e3 ≤ 32) (k0 : y = e0 + 256 * v1) (k1 : v1 = e1 + 256 * v2) (k2 : v2 = e2 + 256 * v3) (k3 : v3 = e3 + 256 * v4) (k4 : v4 = e4 + 256 * v5) : y + y / 4294967296 = (e0 + e4) + 256 * (v1 + v5) := by
  have a1 : y / 256 = v1 := by omega
  have a2 : v1 / 256 = v2 := by omega
  have a3 : v2 / 256 = v3 := by omega
  have a4 : v3 / 256 = v4 := by omega
  have a5 : y / 4294967296 = y / 256 / 256 / 256 / 256 := by simp only [Nat.div_div_eq_div_mul]
  rw [a5, a1, a2, a3, a4]
  clear a1 a2 a3 a4 a5 k1 k2 k3
  omega
theorem lane_add {a b s t x y : Nat} (hx : x = a + 256 * s) (hy : y = b + 256 * t) : x + y = (a + b) + 256 * (s + t) := by omega
theorem lane_le {c t z n : Nat} (h : c ≤ 8) (e : z = c + 256 * t) (ht : t ≤ n) : z ≤ 8 + 256 * n := by omega

/-- The three last steps. -/
theorem sum8 (c0 c1 c2 c3 c4 c5 c6 c7 t1 t2 t3 t4 t5 t6 t7 t8 z : Nat) (h0 : c0 ≤ 8) (h1 : c1 ≤ 8) (h2 : c2 ≤ 8) (h3 : c3 ≤ 8) (h4 : c4 ≤ 8) (h5 : c5 ≤ 8) (h6 : c6 ≤ 8) (h7 : c7 ≤ 8)
    (e0 : z = c0 + 256 * t1) (e1 : t1 = c1 + 256 * t2) (e2 : t2 = c2 + 256 * t3) (e3 : t3 = c3 + 256 * t4) (e4 : t4 = c4 + 256 * t5) (e5 : t5 = c5 + 256 * t6) (e6 : t6 = c6 + 256 * t7) (e7 : t7 = c7 + 256 * t8) (e8 : t8 = 0) (y1 y2 y3 : Nat)
    (hy1 : y1 = z + z / 256) (hy2 : y2 = y1 + y1 / 65536) (hy3 : y3 = y2 + y2 / 4294967296) :
    y1 < 18446744073709551616 ∧ y2 < 18446744073709551616 ∧ y3 < 18446744073709551616 ∧ y3 % 128 = c0 + c1 + c2 + c3 + c4 + c5 + c6 + c7 := by
  have b7 : t7 ≤ 8 := by clear hy1 hy2 hy3 e0 e1 e2 e3 e4 e5 e6; omega
  have b0 := lane_le h0 e0 (lane_le h1 e1 (lane_le h2 e2 (lane_le h3 e3 (lane_le h4 e4 (lane_le h5 e5 (lane_le h6 e6 b7))))))
  have f8 : t8 = 0 + 256 * 0 := by clear hy1 hy2 hy3 e0 e1 e2 e3 e4 e5 e6 e7 b0; omega
  have q1 := lane1 h0 e0 e1
  have r1 := lane_add e1 e2
  have r2 := lane_add e2 e3
  have r3 := lane_add e3 e4
  have r4 := lane_add e4 e5
  have r5 := lane_add e5 e6
  have r6 := lane_add e6 e7
  have r7 := lane_add e7 f8
  have q2 := lane2 (Nat.add_le_add h0 h1) (Nat.add_le_add h1 h2) q1 r1 r2
  have s1 := lane_add r1 r3
  have s2 := lane_add r2 r4
  have s3 := lane_add r3 r5
  have s4 := lane_add r4 r6
  have s5 := lane_add r5 r7
  rw [← hy1, ← hy2] at q2
  have q3 := lane3 (Nat.add_le_add (Nat.add_le_add h0 h1) (Nat.add_le_add h2 h3)) (Nat.add_le_add (Nat.add_le_add h1 h2) (Nat.add_le_add h3 h4)) (Nat.add_le_add (Nat.add_le_add h2 h3) (Nat.add_le_add h4 h5)) (Nat.add_le_add (Nat.add_le_add h3 h4) (Nat.add_le_add h5 h6)) q2 s1 s2 s3 s4
  rw [← hy3] at q3
  clear q1 q2 r1 r2 r3 r4 r5 r6 r7 s1 s2 s3 s4 s5 e0 e1 e2 e3 e4 e5 e6 e7 e8 f8 b7
  have g1 : y1 < 1157442765409226770 := by clear q3 hy2 hy3; omega
  have g2 : y2 < 2314885530818453540 := by clear q3 hy1 hy3; omega
  have g3 : y3 < 4629771061636907080 := by clear q3 hy1 hy2; omega
  refine ⟨by clear q3 hy1 hy2 hy3; omega, by clear q3 hy1 hy2 hy3; omega, by clear q3 hy1 hy2 hy3; omega, ?_⟩
  clear hy1 hy2 hy3 g1 g2 g3 b0
  generalize (t1 + t2 + (t3 + t4) + (t5 + t6 + (t7 + t8))) = v at q3
  omega

theorem lanes_at (k x j : Nat) : lanes (k + 1) (x / 256 ^ j) = cnt (x / 256 ^ j % 256).testBit 8 + 256 * lanes k (x / 256 ^ (j + 1)) := by
  rw [lanes_succ, Nat.div_div_eq_div_mul, ← Nat.pow_succ]

def z1 (x : Nat) : Nat := (x / 2 &&& 6148914691236517205) + (x &&& 6148914691236517205)
def z2 (x : Nat) : Nat := (x / 4 &&& 3689348814741910323) + (x &&& 3689348814741910323)
def z3 (x : Nat) : Nat := (x / 16 + x) &&& 1085102592571150095

theorem z_lanes (x : Nat) : z3 (z2 (z1 x)) = lanes 8 x := by
  have := s3_lanes 8 x
  unfold s3 s2 s1 at this
  rw [m85, m51, m15] at this
  exact this

theorem z1_lt (x : Nat) : z1 x ≤ 12297829382473034410 := by
  unfold z1
  have := Nat.and_le_right (n := x / 2) (m := 6148914691236517205)
  have := Nat.and_le_right (n := x) (m := 6148914691236517205)
  omega
theorem z2_lt (x : Nat) : z2 x ≤ 7378697629483820646 := by
  unfold z2
  have := Nat.and_le_right (n := x / 4) (m := 3689348814741910323)
  have := Nat.and_le_right (n := x) (m := 3689348814741910323)
  omega

theorem pop (x y1 y2 y3 : Nat) (hy1 : y1 = z3 (z2 (z1 x)) + z3 (z2 (z1 x)) / 256) (hy2 : y2 = y1 + y1 / 65536) (hy3 : y3 = y2 + y2 / 4294967296) :
    y1 < 18446744073709551616 ∧ y2 < 18446744073709551616 ∧ y3 < 18446744073709551616 ∧ y3 % 128 = pc x := by
  have h := sum8 _ _ _ _ _ _ _ _ _ _ _ _ _ _ _ _ _ (cnt_le _ 8) (cnt_le _ 8) (cnt_le _ 8) (cnt_le _ 8) (cnt_le _ 8) (cnt_le _ 8) (cnt_le _ 8) (cnt_le _ 8) ((z_lanes x).trans (by have := lanes_at 7 x 0; rwa [Nat.pow_zero, Nat.div_one] at this)) (lanes_at 6 x 1) (lanes_at 5 x 2) (lanes_at 4 x 3) (lanes_at 3 x 4) (lanes_at 2 x 5) (lanes_at 1 x 6) (lanes_at 0 x 7) rfl y1 y2 y3 hy1 hy2 hy3
  have hp := pc_bytes x
  rw [Nat.pow_zero, Nat.div_one] at hp
  rw [← hp] at h
  exact h

end Go.Proofs.Ytgjmomiobffmdaa.Pop
