/-
  The geometry of a disk on paper: which ones are valid, the superblock's bytes, and the numbers that stand in a sector.
-/
import Derived.Test.YtcedpmakomhigaaS3
namespace Go.Proofs.Ytcedpmakomhigaa
open Go.RowKit

/-- A geometry: the journal, the inodes, the groups, the blocks of a group. -/
def geoV (j i g p : Int) : Value := .agg #[.int .i64 j, .int .i64 i, .int .i64 g, .int .i64 p]
/-- A layout. -/
def layoutV (j l g b i k a : Int) : Value := .agg #[.int .i64 j, .int .i64 l, .int .i64 g, .int .i64 b, .int .i64 i, .int .i64 k, .int .i64 a]

/-- A valid geometry. -/
structure Valid (j i g p : Int) : Prop where
  j1 : 3 ≤ j
  j2 : j ≤ 1000
  i1 : 2 ≤ i
  i2 : i ≤ 64
  i3 : i % 2 = 0
  g1 : 1 ≤ g
  g2 : g ≤ 64
  p1 : 1 ≤ p
  gp : g * p ≤ 512
theorem Valid.p2 {j i g p : Int} (h : Valid j i g p) : p ≤ 512 := by
  have h1 := h.g1
  have h2 := h.p1
  have h3 := h.gp
  have : 1 * p ≤ g * p := Int.mul_le_mul_of_nonneg_right h1 (by omega)
  omega
theorem Valid.q {j i g p : Int} (h : Valid j i g p) : p ≤ 512 / g :=
  Int.le_ediv_of_mul_le (by have := h.g1; omega) (by rw [Int.mul_comm]; exact h.gp)
theorem Valid.of_q {j i g p : Int} (j1 : 3 ≤ j) (j2 : j ≤ 1000) (i1 : 2 ≤ i) (i2 : i ≤ 64) (i3 : i % 2 = 0) (g1 : 1 ≤ g) (g2 : g ≤ 64) (p1 : 1 ≤ p) (q : p ≤ 512 / g) : Valid j i g p :=
  ⟨j1, j2, i1, i2, i3, g1, g2, p1, by
    have := Int.mul_le_of_le_ediv (by omega) q
    rw [Int.mul_comm]; exact this⟩
theorem Valid.gp1 {j i g p : Int} (h : Valid j i g p) : 1 ≤ g * p := by
  have h1 := h.g1
  have h2 := h.p1
  have : 1 * p ≤ g * p := Int.mul_le_mul_of_nonneg_right h1 (by omega)
  omega
end Go.Proofs.Ytcedpmakomhigaa
