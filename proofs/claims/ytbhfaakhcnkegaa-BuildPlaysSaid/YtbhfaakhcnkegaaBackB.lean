/-
  There and back, without a program: what is written as bytes is read as it was.
-/
import Derived.Test.YtbhfaakhcnkegaaOpn
import Derived.Test.YtbhfaakhcnkegaaWrp
namespace Go.Proofs.Ytbhfaakhcnkegaa
open Go.RowKit
set_option linter.unusedVariables false
set_option linter.unusedSimpArgs false
set_option maxRecDepth 4000

theorem nth_app {p : List UInt8} {b : UInt8} {r : List UInt8} {k : Nat} (hk : k = p.length) : nth (p ++ b :: r) k = (b.toNat : Int) := by
  subst hk; simp [nth, List.getD]
theorem nth_u8 {p r : List UInt8} {k : Nat} {z : Int} (hk : k = p.length) (h0 : 0 ≤ z) (h1 : z < 256) : nth (p ++ u8 z :: r) k = z := by
  rw [nth_app hk]; exact (u8_val z h0 h1).symm

theorem rLen1 (p r : List UInt8) (n : Int) (h0 : 0 ≤ n) (a1 : n < 128) : rLen (p ++ ([u8 n] ++ r)) p.length = (n, p.length + 1, 0) := by
  have e0 : nth (p ++ ([u8 n] ++ r)) p.length = n := nth_u8 rfl h0 (by omega)
  unfold rLen
  rw [if_neg (by simp), e0, if_pos a1]
theorem rLen2 (p r : List UInt8) (n : Int) (a1 : 128 ≤ n) (a2 : n < 256) : rLen (p ++ ([129, u8 (n)] ++ r)) p.length = (n, p.length + 2, 0) := by
  have e0 : nth (p ++ ([129, u8 (n)] ++ r)) p.length = 129 := nth_app rfl
  have e1 : nth (p ++ ([129, u8 (n)] ++ r)) (p.length + 1) = n := by
    rw [show p ++ ([129, u8 (n)] ++ r) = (p ++ [129]) ++ u8 (n) :: ([] ++ r) by simp]
    exact nth_u8 (by simp) (by omega) (by omega)
  unfold rLen
  rw [if_neg (by simp), e0, if_neg (by omega), if_neg (by omega), if_neg (by simp; try omega)]
  simp only [show ((129 : Int) - 128).toNat = 1 by omega, bign, e1]
  have hs : (256 * 0 + n) = n := by omega
  rw [hs, if_neg (by omega), if_neg (by omega)]
theorem rLen3 (p r : List UInt8) (n : Int) (a1 : 256 ≤ n) (a2 : n < 65536) : rLen (p ++ ([130, u8 (n / 256), u8 (n % 256)] ++ r)) p.length = (n, p.length + 3, 0) := by
  have e0 : nth (p ++ ([130, u8 (n / 256), u8 (n % 256)] ++ r)) p.length = 130 := nth_app rfl
  have e1 : nth (p ++ ([130, u8 (n / 256), u8 (n % 256)] ++ r)) (p.length + 1) = n / 256 := by
    rw [show p ++ ([130, u8 (n / 256), u8 (n % 256)] ++ r) = (p ++ [130]) ++ u8 (n / 256) :: ([u8 (n % 256)] ++ r) by simp]
    exact nth_u8 (by simp) (by omega) (by omega)
  have e2 : nth (p ++ ([130, u8 (n / 256), u8 (n % 256)] ++ r)) (p.length + 1 + 1) = n % 256 := by
    rw [show p ++ ([130, u8 (n / 256), u8 (n % 256)] ++ r) = (p ++ [130, u8 (n / 256)]) ++ u8 (n % 256) :: ([] ++ r) by simp]
    exact nth_u8 (by simp) (by omega) (by omega)
  unfold rLen
  rw [if_neg (by simp), e0, if_neg (by omega), if_neg (by omega), if_neg (by simp; try omega)]
  simp only [show ((130 : Int) - 128).toNat = 2 by omega, bign, e1, e2]
  have hs : (256 * (256 * 0 + n / 256) + n % 256) = n := by omega
  rw [hs, if_neg (by omega), if_neg (by omega)]
theorem rLen4 (p r : List UInt8) (n : Int) (a1 : 65536 ≤ n) (a2 : n < 16777216) : rLen (p ++ ([131, u8 (n / 65536), u8 (n / 256 % 256), u8 (n % 256)] ++ r)) p.length = (n, p.length + 4, 0) := by
  have e0 : nth (p ++ ([131, u8 (n / 65536), u8 (n / 256 % 256), u8 (n % 256)] ++ r)) p.length = 131 := nth_app rfl
  have e1 : nth (p ++ ([131, u8 (n / 65536), u8 (n / 256 % 256), u8 (n % 256)] ++ r)) (p.length + 1) = n / 65536 := by
    rw [show p ++ ([131, u8 (n / 65536), u8 (n / 256 % 256), u8 (n % 256)] ++ r) = (p ++ [131]) ++ u8 (n / 65536) :: ([u8 (n / 256 % 256), u8 (n % 256)] ++ r) by simp]
    exact nth_u8 (by simp) (by omega) (by omega)
  have e2 : nth (p ++ ([131, u8 (n / 65536), u8 (n / 256 % 256), u8 (n % 256)] ++ r)) (p.length + 1 + 1) = n / 256 % 256 := by
    rw [show p ++ ([131, u8 (n / 65536), u8 (n / 256 % 256), u8 (n % 256)] ++ r) = (p ++ [131, u8 (n / 65536)]) ++ u8 (n / 256 % 256) :: ([u8 (n % 256)] ++ r) by simp]
    exact nth_u8 (by simp) (by omega) (by omega)
  have e3 : nth (p ++ ([131, u8 (n / 65536), u8 (n / 256 % 256), u8 (n % 256)] ++ r)) (p.length + 1 + 1 + 1) = n % 256 := by
    rw [show p ++ ([131, u8 (n / 65536), u8 (n / 256 % 256), u8 (n % 256)] ++ r) = (p ++ [131, u8 (n / 65536), u8 (n / 256 % 256)]) ++ u8 (n % 256) :: ([] ++ r) by simp]
    exact nth_u8 (by simp) (by omega) (by omega)
  unfold rLen
  rw [if_neg (by simp), e0, if_neg (by omega), if_neg (by omega), if_neg (by simp; try omega)]
  simp only [show ((131 : Int) - 128).toNat = 3 by omega, bign, e1, e2, e3]
  have hs : (256 * (256 * (256 * 0 + n / 65536) + n / 256 % 256) + n % 256) = n := by omega
  rw [hs, if_neg (by omega), if_neg (by omega)]
theorem rLen5 (p r : List UInt8) (n : Int) (a1 : 16777216 ≤ n) (a2 : n ≤ 16777216) : rLen (p ++ ([132, u8 (n / 16777216), u8 (n / 65536 % 256), u8 (n / 256 % 256), u8 (n % 256)] ++ r)) p.length = (n, p.length + 5, 0) := by
  have e0 : nth (p ++ ([132, u8 (n / 16777216), u8 (n / 65536 % 256), u8 (n / 256 % 256), u8 (n % 256)] ++ r)) p.length = 132 := nth_app rfl
  have e1 : nth (p ++ ([132, u8 (n / 16777216), u8 (n / 65536 % 256), u8 (n / 256 % 256), u8 (n % 256)] ++ r)) (p.length + 1) = n / 16777216 := by
    rw [show p ++ ([132, u8 (n / 16777216), u8 (n / 65536 % 256), u8 (n / 256 % 256), u8 (n % 256)] ++ r) = (p ++ [132]) ++ u8 (n / 16777216) :: ([u8 (n / 65536 % 256), u8 (n / 256 % 256), u8 (n % 256)] ++ r) by simp]
    exact nth_u8 (by simp) (by omega) (by omega)
  have e2 : nth (p ++ ([132, u8 (n / 16777216), u8 (n / 65536 % 256), u8 (n / 256 % 256), u8 (n % 256)] ++ r)) (p.length + 1 + 1) = n / 65536 % 256 := by
    rw [show p ++ ([132, u8 (n / 16777216), u8 (n / 65536 % 256), u8 (n / 256 % 256), u8 (n % 256)] ++ r) = (p ++ [132, u8 (n / 16777216)]) ++ u8 (n / 65536 % 256) :: ([u8 (n / 256 % 256), u8 (n % 256)] ++ r) by simp]
    exact nth_u8 (by simp) (by omega) (by omega)
  have e3 : nth (p ++ ([132, u8 (n / 16777216), u8 (n / 65536 % 256), u8 (n / 256 % 256), u8 (n % 256)] ++ r)) (p.length + 1 + 1 + 1) = n / 256 % 256 := by
    rw [show p ++ ([132, u8 (n / 16777216), u8 (n / 65536 % 256), u8 (n / 256 % 256), u8 (n % 256)] ++ r) = (p ++ [132, u8 (n / 16777216), u8 (n / 65536 % 256)]) ++ u8 (n / 256 % 256) :: ([u8 (n % 256)] ++ r) by simp]
    exact nth_u8 (by simp) (by omega) (by omega)
  have e4 : nth (p ++ ([132, u8 (n / 16777216), u8 (n / 65536 % 256), u8 (n / 256 % 256), u8 (n % 256)] ++ r)) (p.length + 1 + 1 + 1 + 1) = n % 256 := by
    rw [show p ++ ([132, u8 (n / 16777216), u8 (n / 65536 % 256), u8 (n / 256 % 256), u8 (n % 256)] ++ r) = (p ++ [132, u8 (n / 16777216), u8 (n / 65536 % 256), u8 (n / 256 % 256)]) ++ u8 (n % 256) :: ([] ++ r) by simp]
    exact nth_u8 (by simp) (by omega) (by omega)
  unfold rLen
  rw [if_neg (by simp), e0, if_neg (by omega), if_neg (by omega), if_neg (by simp; try omega)]
  simp only [show ((132 : Int) - 128).toNat = 4 by omega, bign, e1, e2, e3, e4]
  have hs : (256 * (256 * (256 * (256 * 0 + n / 16777216) + n / 65536 % 256) + n / 256 % 256) + n % 256) = n := by omega
  rw [hs, if_neg (by omega), if_neg (by omega)]

/-- A length's bytes, read at their place. -/
theorem rLen_lenB (p r : List UInt8) (n : Int) (h0 : 0 ≤ n) (h1 : n ≤ 16777216) : rLen (p ++ (lenB n ++ r)) p.length = (n, p.length + (lenB n).length, 0) := by
  unfold lenB
  split
  · exact rLen1 p r n h0 (by omega)
  · split
    · exact rLen2 p r n (by omega) (by omega)
    · split
      · exact rLen3 p r n (by omega) (by omega)
      · split
        · exact rLen4 p r n (by omega) (by omega)
        · exact rLen5 p r n (by omega) (by omega)

theorem rTagF0 (p r : List UInt8) (c n : Int) (c0 : 0 ≤ c) (c1 : c < 4) (n0 : 0 ≤ n) (a : n < 31) : rTag (p ++ ([u8 (64 * c + n)] ++ r)) p.length = (⟨c, n, false⟩, p.length + 1, 0) := by
  have e0 : nth (p ++ ([u8 (64 * c + n)] ++ r)) p.length = 64 * c + n := nth_u8 rfl (by omega) (by omega)
  unfold rTag
  rw [if_neg (by simp), e0, if_pos (by omega)]
  have h1 : (64 * c + n) / 64 = c := by omega
  have h2 : (64 * c + n) % 32 = n := by omega
  have h3 : (64 * c + n) / 32 % 2 = 0 := by omega
  simp [tg1, h1, h2, h3]
theorem rTagF1 (p r : List UInt8) (c n : Int) (c0 : 0 ≤ c) (c1 : c < 4) (a : 31 ≤ n) (b : n < 128) : rTag (p ++ ([u8 (64 * c + 31), u8 (n % 128)] ++ r)) p.length = (⟨c, n, false⟩, p.length + 2, 0) := by
  have e0 : nth (p ++ ([u8 (64 * c + 31), u8 (n % 128)] ++ r)) p.length = 64 * c + 31 := nth_u8 rfl (by omega) (by omega)
  have e1 : nth (p ++ ([u8 (64 * c + 31), u8 (n % 128)] ++ r)) (p.length + 1) = n % 128 := by
    rw [show p ++ ([u8 (64 * c + 31), u8 (n % 128)] ++ r) = (p ++ [u8 (64 * c + 31)]) ++ u8 (n % 128) :: ([] ++ r) by simp]
    exact nth_u8 (by simp) (by omega) (by omega)
  have hlen : (p ++ ([u8 (64 * c + 31), u8 (n % 128)] ++ r)).length = p.length + 2 + r.length := by simp; omega
  have h1 : (64 * c + 31) / 64 = c := by omega
  have h3 : (64 * c + 31) / 32 % 2 = 0 := by omega
  unfold rTag
  rw [if_neg (by omega), e0, if_neg (by omega), h1, h3]
  rw [digs2, if_neg (by omega), e1, if_neg (by omega), if_pos (by omega)]
  have hs : (128 * 0 + (n % 128) % 128) = n := by omega
  try simp only [show (1 : Nat) + 1 = 2 from rfl, show (2 : Nat) + 1 = 3 from rfl] at *
  rw [hs, if_neg (by omega)]
  rfl
theorem rTagF2 (p r : List UInt8) (c n : Int) (c0 : 0 ≤ c) (c1 : c < 4) (a : 128 ≤ n) (b : n < 16384) : rTag (p ++ ([u8 (64 * c + 31), u8 (128 + n / 128 % 128), u8 (n % 128)] ++ r)) p.length = (⟨c, n, false⟩, p.length + 3, 0) := by
  have e0 : nth (p ++ ([u8 (64 * c + 31), u8 (128 + n / 128 % 128), u8 (n % 128)] ++ r)) p.length = 64 * c + 31 := nth_u8 rfl (by omega) (by omega)
  have e1 : nth (p ++ ([u8 (64 * c + 31), u8 (128 + n / 128 % 128), u8 (n % 128)] ++ r)) (p.length + 1) = 128 + n / 128 % 128 := by
    rw [show p ++ ([u8 (64 * c + 31), u8 (128 + n / 128 % 128), u8 (n % 128)] ++ r) = (p ++ [u8 (64 * c + 31)]) ++ u8 (128 + n / 128 % 128) :: ([u8 (n % 128)] ++ r) by simp]
    exact nth_u8 (by simp) (by omega) (by omega)
  have e2 : nth (p ++ ([u8 (64 * c + 31), u8 (128 + n / 128 % 128), u8 (n % 128)] ++ r)) (p.length + 2) = n % 128 := by
    rw [show p ++ ([u8 (64 * c + 31), u8 (128 + n / 128 % 128), u8 (n % 128)] ++ r) = (p ++ [u8 (64 * c + 31), u8 (128 + n / 128 % 128)]) ++ u8 (n % 128) :: ([] ++ r) by simp]
    exact nth_u8 (by simp) (by omega) (by omega)
  have hlen : (p ++ ([u8 (64 * c + 31), u8 (128 + n / 128 % 128), u8 (n % 128)] ++ r)).length = p.length + 3 + r.length := by simp; omega
  have h1 : (64 * c + 31) / 64 = c := by omega
  have h3 : (64 * c + 31) / 32 % 2 = 0 := by omega
  unfold rTag
  rw [if_neg (by omega), e0, if_neg (by omega), h1, h3]
  rw [digs2, if_neg (by omega), e1, if_neg (by omega), if_neg (by omega)]
  rw [digs2, if_neg (by omega), e2, if_neg (by omega), if_pos (by omega)]
  have hs : (128 * (128 * 0 + (128 + n / 128 % 128) % 128) + (n % 128) % 128) = n := by omega
  try simp only [show (1 : Nat) + 1 = 2 from rfl, show (2 : Nat) + 1 = 3 from rfl] at *
  rw [hs, if_neg (by omega)]
  rfl
theorem rTagF3 (p r : List UInt8) (c n : Int) (c0 : 0 ≤ c) (c1 : c < 4) (a : 16384 ≤ n) (b : n < 2097152) : rTag (p ++ ([u8 (64 * c + 31), u8 (128 + n / 16384), u8 (128 + n / 128 % 128), u8 (n % 128)] ++ r)) p.length = (⟨c, n, false⟩, p.length + 4, 0) := by
  have e0 : nth (p ++ ([u8 (64 * c + 31), u8 (128 + n / 16384), u8 (128 + n / 128 % 128), u8 (n % 128)] ++ r)) p.length = 64 * c + 31 := nth_u8 rfl (by omega) (by omega)
  have e1 : nth (p ++ ([u8 (64 * c + 31), u8 (128 + n / 16384), u8 (128 + n / 128 % 128), u8 (n % 128)] ++ r)) (p.length + 1) = 128 + n / 16384 := by
    rw [show p ++ ([u8 (64 * c + 31), u8 (128 + n / 16384), u8 (128 + n / 128 % 128), u8 (n % 128)] ++ r) = (p ++ [u8 (64 * c + 31)]) ++ u8 (128 + n / 16384) :: ([u8 (128 + n / 128 % 128), u8 (n % 128)] ++ r) by simp]
    exact nth_u8 (by simp) (by omega) (by omega)
  have e2 : nth (p ++ ([u8 (64 * c + 31), u8 (128 + n / 16384), u8 (128 + n / 128 % 128), u8 (n % 128)] ++ r)) (p.length + 2) = 128 + n / 128 % 128 := by
    rw [show p ++ ([u8 (64 * c + 31), u8 (128 + n / 16384), u8 (128 + n / 128 % 128), u8 (n % 128)] ++ r) = (p ++ [u8 (64 * c + 31), u8 (128 + n / 16384)]) ++ u8 (128 + n / 128 % 128) :: ([u8 (n % 128)] ++ r) by simp]
    exact nth_u8 (by simp) (by omega) (by omega)
  have e3 : nth (p ++ ([u8 (64 * c + 31), u8 (128 + n / 16384), u8 (128 + n / 128 % 128), u8 (n % 128)] ++ r)) (p.length + 3) = n % 128 := by
    rw [show p ++ ([u8 (64 * c + 31), u8 (128 + n / 16384), u8 (128 + n / 128 % 128), u8 (n % 128)] ++ r) = (p ++ [u8 (64 * c + 31), u8 (128 + n / 16384), u8 (128 + n / 128 % 128)]) ++ u8 (n % 128) :: ([] ++ r) by simp]
    exact nth_u8 (by simp) (by omega) (by omega)
  have hlen : (p ++ ([u8 (64 * c + 31), u8 (128 + n / 16384), u8 (128 + n / 128 % 128), u8 (n % 128)] ++ r)).length = p.length + 4 + r.length := by simp; omega
  have h1 : (64 * c + 31) / 64 = c := by omega
  have h3 : (64 * c + 31) / 32 % 2 = 0 := by omega
  unfold rTag
  rw [if_neg (by omega), e0, if_neg (by omega), h1, h3]
  rw [digs2, if_neg (by omega), e1, if_neg (by omega), if_neg (by omega)]
  rw [digs2, if_neg (by omega), e2, if_neg (by omega), if_neg (by omega)]
  rw [digs2, if_neg (by omega), e3, if_neg (by omega), if_pos (by omega)]
  have hs : (128 * (128 * (128 * 0 + (128 + n / 16384) % 128) + (128 + n / 128 % 128) % 128) + (n % 128) % 128) = n := by omega
  try simp only [show (1 : Nat) + 1 = 2 from rfl, show (2 : Nat) + 1 = 3 from rfl] at *
  rw [hs, if_neg (by omega)]
  rfl
theorem rTagT0 (p r : List UInt8) (c n : Int) (c0 : 0 ≤ c) (c1 : c < 4) (n0 : 0 ≤ n) (a : n < 31) : rTag (p ++ ([u8 (64 * c + 32 + n)] ++ r)) p.length = (⟨c, n, true⟩, p.length + 1, 0) := by
  have e0 : nth (p ++ ([u8 (64 * c + 32 + n)] ++ r)) p.length = 64 * c + 32 + n := nth_u8 rfl (by omega) (by omega)
  unfold rTag
  rw [if_neg (by simp), e0, if_pos (by omega)]
  have h1 : (64 * c + 32 + n) / 64 = c := by omega
  have h2 : (64 * c + 32 + n) % 32 = n := by omega
  have h3 : (64 * c + 32 + n) / 32 % 2 = 1 := by omega
  simp [tg1, h1, h2, h3]
theorem rTagT1 (p r : List UInt8) (c n : Int) (c0 : 0 ≤ c) (c1 : c < 4) (a : 31 ≤ n) (b : n < 128) : rTag (p ++ ([u8 (64 * c + 32 + 31), u8 (n % 128)] ++ r)) p.length = (⟨c, n, true⟩, p.length + 2, 0) := by
  have e0 : nth (p ++ ([u8 (64 * c + 32 + 31), u8 (n % 128)] ++ r)) p.length = 64 * c + 32 + 31 := nth_u8 rfl (by omega) (by omega)
  have e1 : nth (p ++ ([u8 (64 * c + 32 + 31), u8 (n % 128)] ++ r)) (p.length + 1) = n % 128 := by
    rw [show p ++ ([u8 (64 * c + 32 + 31), u8 (n % 128)] ++ r) = (p ++ [u8 (64 * c + 32 + 31)]) ++ u8 (n % 128) :: ([] ++ r) by simp]
    exact nth_u8 (by simp) (by omega) (by omega)
  have hlen : (p ++ ([u8 (64 * c + 32 + 31), u8 (n % 128)] ++ r)).length = p.length + 2 + r.length := by simp; omega
  have h1 : (64 * c + 32 + 31) / 64 = c := by omega
  have h3 : (64 * c + 32 + 31) / 32 % 2 = 1 := by omega
  unfold rTag
  rw [if_neg (by omega), e0, if_neg (by omega), h1, h3]
  rw [digs2, if_neg (by omega), e1, if_neg (by omega), if_pos (by omega)]
  have hs : (128 * 0 + (n % 128) % 128) = n := by omega
  try simp only [show (1 : Nat) + 1 = 2 from rfl, show (2 : Nat) + 1 = 3 from rfl] at *
  rw [hs, if_neg (by omega)]
  rfl
theorem rTagT2 (p r : List UInt8) (c n : Int) (c0 : 0 ≤ c) (c1 : c < 4) (a : 128 ≤ n) (b : n < 16384) : rTag (p ++ ([u8 (64 * c + 32 + 31), u8 (128 + n / 128 % 128), u8 (n % 128)] ++ r)) p.length = (⟨c, n, true⟩, p.length + 3, 0) := by
  have e0 : nth (p ++ ([u8 (64 * c + 32 + 31), u8 (128 + n / 128 % 128), u8 (n % 128)] ++ r)) p.length = 64 * c + 32 + 31 := nth_u8 rfl (by omega) (by omega)
  have e1 : nth (p ++ ([u8 (64 * c + 32 + 31), u8 (128 + n / 128 % 128), u8 (n % 128)] ++ r)) (p.length + 1) = 128 + n / 128 % 128 := by
    rw [show p ++ ([u8 (64 * c + 32 + 31), u8 (128 + n / 128 % 128), u8 (n % 128)] ++ r) = (p ++ [u8 (64 * c + 32 + 31)]) ++ u8 (128 + n / 128 % 128) :: ([u8 (n % 128)] ++ r) by simp]
    exact nth_u8 (by simp) (by omega) (by omega)
  have e2 : nth (p ++ ([u8 (64 * c + 32 + 31), u8 (128 + n / 128 % 128), u8 (n % 128)] ++ r)) (p.length + 2) = n % 128 := by
    rw [show p ++ ([u8 (64 * c + 32 + 31), u8 (128 + n / 128 % 128), u8 (n % 128)] ++ r) = (p ++ [u8 (64 * c + 32 + 31), u8 (128 + n / 128 % 128)]) ++ u8 (n % 128) :: ([] ++ r) by simp]
    exact nth_u8 (by simp) (by omega) (by omega)
  have hlen : (p ++ ([u8 (64 * c + 32 + 31), u8 (128 + n / 128 % 128), u8 (n % 128)] ++ r)).length = p.length + 3 + r.length := by simp; omega
  have h1 : (64 * c + 32 + 31) / 64 = c := by omega
  have h3 : (64 * c + 32 + 31) / 32 % 2 = 1 := by omega
  unfold rTag
  rw [if_neg (by omega), e0, if_neg (by omega), h1, h3]
  rw [digs2, if_neg (by omega), e1, if_neg (by omega), if_neg (by omega)]
  rw [digs2, if_neg (by omega), e2, if_neg (by omega), if_pos (by omega)]
  have hs : (128 * (128 * 0 + (128 + n / 128 % 128) % 128) + (n % 128) % 128) = n := by omega
  try simp only [show (1 : Nat) + 1 = 2 from rfl, show (2 : Nat) + 1 = 3 from rfl] at *
  rw [hs, if_neg (by omega)]
  rfl
theorem rTagT3 (p r : List UInt8) (c n : Int) (c0 : 0 ≤ c) (c1 : c < 4) (a : 16384 ≤ n) (b : n < 2097152) : rTag (p ++ ([u8 (64 * c + 32 + 31), u8 (128 + n / 16384), u8 (128 + n / 128 % 128), u8 (n % 128)] ++ r)) p.length = (⟨c, n, true⟩, p.length + 4, 0) := by
  have e0 : nth (p ++ ([u8 (64 * c + 32 + 31), u8 (128 + n / 16384), u8 (128 + n / 128 % 128), u8 (n % 128)] ++ r)) p.length = 64 * c + 32 + 31 := nth_u8 rfl (by omega) (by omega)
  have e1 : nth (p ++ ([u8 (64 * c + 32 + 31), u8 (128 + n / 16384), u8 (128 + n / 128 % 128), u8 (n % 128)] ++ r)) (p.length + 1) = 128 + n / 16384 := by
    rw [show p ++ ([u8 (64 * c + 32 + 31), u8 (128 + n / 16384), u8 (128 + n / 128 % 128), u8 (n % 128)] ++ r) = (p ++ [u8 (64 * c + 32 + 31)]) ++ u8 (128 + n / 16384) :: ([u8 (128 + n / 128 % 128), u8 (n % 128)] ++ r) by simp]
    exact nth_u8 (by simp) (by omega) (by omega)
  have e2 : nth (p ++ ([u8 (64 * c + 32 + 31), u8 (128 + n / 16384), u8 (128 + n / 128 % 128), u8 (n % 128)] ++ r)) (p.length + 2) = 128 + n / 128 % 128 := by
    rw [show p ++ ([u8 (64 * c + 32 + 31), u8 (128 + n / 16384), u8 (128 + n / 128 % 128), u8 (n % 128)] ++ r) = (p ++ [u8 (64 * c + 32 + 31), u8 (128 + n / 16384)]) ++ u8 (128 + n / 128 % 128) :: ([u8 (n % 128)] ++ r) by simp]
    exact nth_u8 (by simp) (by omega) (by omega)
  have e3 : nth (p ++ ([u8 (64 * c + 32 + 31), u8 (128 + n / 16384), u8 (128 + n / 128 % 128), u8 (n % 128)] ++ r)) (p.length + 3) = n % 128 := by
    rw [show p ++ ([u8 (64 * c + 32 + 31), u8 (128 + n / 16384), u8 (128 + n / 128 % 128), u8 (n % 128)] ++ r) = (p ++ [u8 (64 * c + 32 + 31), u8 (128 + n / 16384), u8 (128 + n / 128 % 128)]) ++ u8 (n % 128) :: ([] ++ r) by simp]
    exact nth_u8 (by simp) (by omega) (by omega)
  have hlen : (p ++ ([u8 (64 * c + 32 + 31), u8 (128 + n / 16384), u8 (128 + n / 128 % 128), u8 (n % 128)] ++ r)).length = p.length + 4 + r.length := by simp; omega
  have h1 : (64 * c + 32 + 31) / 64 = c := by omega
  have h3 : (64 * c + 32 + 31) / 32 % 2 = 1 := by omega
  unfold rTag
  rw [if_neg (by omega), e0, if_neg (by omega), h1, h3]
  rw [digs2, if_neg (by omega), e1, if_neg (by omega), if_neg (by omega)]
  rw [digs2, if_neg (by omega), e2, if_neg (by omega), if_neg (by omega)]
  rw [digs2, if_neg (by omega), e3, if_neg (by omega), if_pos (by omega)]
  have hs : (128 * (128 * (128 * 0 + (128 + n / 16384) % 128) + (128 + n / 128 % 128) % 128) + (n % 128) % 128) = n := by omega
  try simp only [show (1 : Nat) + 1 = 2 from rfl, show (2 : Nat) + 1 = 3 from rfl] at *
  rw [hs, if_neg (by omega)]
  rfl

/-- A tag's bytes, read at their place. -/
theorem rTag_tagB (p r : List UInt8) (t : Tg) (h : t.right) : rTag (p ++ (tagB t ++ r)) p.length = (t, p.length + (tagB t).length, 0) := by
  obtain ⟨c0, c1, n0, n1⟩ := h
  obtain ⟨c, n, m⟩ := t
  simp only at c0 c1 n0 n1
  have hT0 : n < 31 → tagB ⟨c, n, m⟩ = [u8 (64 * c + (if m then 32 else 0) + n)] := fun h => by simp only [tagB, if_pos h]
  have hT1 : 31 ≤ n → n < 128 → tagB ⟨c, n, m⟩ = [u8 (64 * c + (if m then 32 else 0) + 31), u8 (n % 128)] := fun h k => by
    simp only [tagB, if_neg (show ¬ n < 31 by omega), if_neg (show ¬ 16384 ≤ n by omega), if_neg (show ¬ 128 ≤ n by omega)]; simp
  have hT2 : 128 ≤ n → n < 16384 → tagB ⟨c, n, m⟩ = [u8 (64 * c + (if m then 32 else 0) + 31), u8 (128 + n / 128 % 128), u8 (n % 128)] := fun h k => by
    simp only [tagB, if_neg (show ¬ n < 31 by omega), if_neg (show ¬ 16384 ≤ n by omega), if_pos (show 128 ≤ n by omega)]; simp
  have hT3 : 16384 ≤ n → tagB ⟨c, n, m⟩ = [u8 (64 * c + (if m then 32 else 0) + 31), u8 (128 + n / 16384), u8 (128 + n / 128 % 128), u8 (n % 128)] := fun h => by
    simp only [tagB, if_neg (show ¬ n < 31 by omega), if_pos (show 16384 ≤ n by omega), if_pos (show 128 ≤ n by omega)]; simp
  by_cases a1 : n < 31
  · rw [hT0 a1]
    cases m
    · simpa using rTagF0 p r c n c0 c1 n0 a1
    · simpa using rTagT0 p r c n c0 c1 n0 a1
  · by_cases a2 : n < 128
    · rw [hT1 (by omega) a2]
      cases m
      · simpa using rTagF1 p r c n c0 c1 (by omega) a2
      · simpa using rTagT1 p r c n c0 c1 (by omega) a2
    · by_cases a3 : n < 16384
      · rw [hT2 (by omega) a3]
        cases m
        · simpa using rTagF2 p r c n c0 c1 (by omega) a3
        · simpa using rTagT2 p r c n c0 c1 (by omega) a3
      · rw [hT3 (by omega)]
        cases m
        · simpa using rTagF3 p r c n c0 c1 (by omega) n1
        · simpa using rTagT3 p r c n c0 c1 (by omega) n1

/-- A whole, read at its place. -/
theorem rHead_wrapB (p r l : List UInt8) (t : Tg) (h : t.right) (hl : l.length ≤ 16777216) :
    rHead (p ++ (wrapB t l ++ r)) p.length = (t, (l.length : Int), p.length + (tagB t).length + (lenB l.length).length, 0) := by
  have e1 : p ++ (wrapB t l ++ r) = p ++ (tagB t ++ (lenB l.length ++ (l ++ r))) := by simp [wrapB]
  have h1 := rTag_tagB p (lenB l.length ++ (l ++ r)) t h
  have h2 := rLen_lenB (p ++ tagB t) (l ++ r) l.length (by omega) (by omega)
  rw [List.append_assoc, List.length_append] at h2
  rw [e1]
  unfold rHead
  rw [h1]
  simp only [h2, if_true]
theorem rOpen_wrapB (p r l : List UInt8) (t : Tg) (h : t.right) (hl : l.length ≤ 16777216) :
    rOpen (p ++ (wrapB t l ++ r)) p.length t = (l, p.length + (wrapB t l).length, 0) := by
  have h1 := rHead_wrapB p r l t h hl
  have hlen : (wrapB t l).length = (tagB t).length + (lenB l.length).length + l.length := by simp [wrapB]; omega
  unfold rOpen
  rw [h1]
  simp only [if_true]
  rw [if_neg (by simp [hlen]; omega)]
  have e2 : p ++ (wrapB t l ++ r) = (p ++ (tagB t ++ lenB l.length)) ++ (l ++ r) := by simp [wrapB]
  rw [e2, List.drop_append_of_le_length (by simp; omega), List.drop_of_length_le (by simp; omega)]
  simp [hlen]
  omega

end Go.Proofs.Ytbhfaakhcnkegaa
