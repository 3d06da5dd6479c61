/-
  The contracts of the project's head: the next length.
-/
import Derived.Test.YtbhfaakhcnkegaaHdTagC
namespace Go.Proofs.Ytbhfaakhcnkegaa
open Go.RowKit
set_option linter.unusedVariables false
set_option linter.unusedSimpArgs false
set_option maxRecDepth 4000

theorem rLen_no (l : List UInt8) (k : Nat) (h : (rLen l k).2.2 ≠ 0) : rLen l k = (0, k, (rLen l k).2.2) := by
  unfold rLen at *
  split
  · rfl
  · rename_i h0
    rw [if_neg h0] at h
    split
    · rename_i h1; rw [if_pos h1] at h; simp at h
    · rename_i h1
      rw [if_neg h1] at h
      split
      · rfl
      · rename_i h2
        rw [if_neg h2] at h
        split
        · rfl
        · rename_i h3
          rw [if_neg h3] at h
          split
          · rfl
          · rename_i h4
            rw [if_neg h4] at h
            split
            · rfl
            · rename_i h5; rw [if_neg h5] at h; simp at h

theorem Var.noByte {w : World} {g : Nat} {z : Int} (h : Var w g z) : ∀ o (x : UInt8), w.cell? ⟨g, o, none⟩ ≠ some (.int .u8 (x.toNat : Int)) := by
  intro o x
  rw [blk_cell h]
  match o with
  | 0 => simp
  | o + 1 => simp
theorem nth_cut {l : List UInt8} {p m i : Nat} (h : i < m) : nth ((l.drop p).take m) i = nth l (p + i) := by
  unfold nth
  simp [List.getD, List.getElem?_take, h, List.getElem?_drop]

/-- What reading a length hands back, ahead of going back. -/
def LenRaw (w : World) (g : Nat) (s : Value) (l : List UInt8) (k : Nat) (e : Ending) (w' : World) : Prop :=
  ∃ (n E : Int) (k' : Nat), e = .returned (.tuple #[.int .i64 n, .int .i64 E]) ∧ Cur w' g s l k' ∧ k ≤ k' ∧ Only g w w' ∧ (rLen l k).2.2 = E ∧ (E = 0 → rLen l k = (n, k', 0))
theorem LenRaw.err {w : World} {g : Nat} {s : Value} {l : List UInt8} {k : Nat} {w' : World} {E : Int} {k' : Nat} (hc : Cur w' g s l k') (hk : k ≤ k') (ho : Only g w w')
    (h : rLen l k = (0, k, E)) (hE : E ≠ 0) : LenRaw w g s l k (.returned (.tuple #[.int .i64 0, .int .i64 E])) w' :=
  ⟨0, E, k', rfl, hc, hk, ho, by rw [h], fun e => absurd e hE⟩
theorem LenRaw.ok {w : World} {g : Nat} {s : Value} {l : List UInt8} {k : Nat} {w' : World} {n : Int} {k' : Nat} (hc : Cur w' g s l k') (hk : k ≤ k') (ho : Only g w w')
    (h : rLen l k = (n, k', 0)) : LenRaw w g s l k (.returned (.tuple #[.int .i64 n, .int .i64 0])) w' :=
  ⟨n, 0, k', rfl, hc, hk, ho, by rw [h], fun _ => h⟩

set_option maxHeartbeats 3200000 in
theorem hdReadLengthRaw (g k : Nat) (l : List UInt8) (w : World) {s : Value} (h : Cur w g s l k) :
    Calls Try.prog 109 #[.pointer (some ⟨g, 0, none⟩)] w (LenRaw w g s l k) := by
  have hg := h.lt
  go_enter Try.func109, Try.ntmps109
  by_cases hend : l.length ≤ k
  · have hl : k = l.length := by
      obtain ⟨_, _, _, _, _, _, hb, _, hk, _⟩ := h; have := hb.len; omega
    subst hl
    have hR : Hid (rLen l l.length = (0, l.length, 3)) := by unfold Hid rLen; rw [if_pos (Nat.le_refl _)]
    go_wp2_with fail
    refine (curByteEnd g l _ h).mono ?_
    rintro e w2 ⟨rfl, hq⟩
    go_wp2
    go_ret2
    exact LenRaw.err (h.qt hq) (Nat.le_refl _) (Only.of_qt hq) hR.out (by omega)
  · have hbd := nth_bound l k
    go_wp2_with fail
    refine (curByte g _ l _ h (by omega)).mono ?_
    rintro e w2 ⟨rfl, hc2, hO2⟩
    have hR : Hid (rLen l k = if nth l k < 128 then (nth l k, k + 1, 0)
        else if nth l k = 128 ∨ 132 < nth l k then (0, k, 5)
        else if l.length < k + 1 + (nth l k - 128).toNat then (0, k, 3)
        else if nth l (k + 1) = 0 ∨ bign l (k + 1) (nth l k - 128).toNat 0 < 128 then (0, k, 5)
        else if 16777216 < bign l (k + 1) (nth l k - 128).toNat 0 then (0, k, 2)
        else (bign l (k + 1) (nth l k - 128).toNat 0, k + (nth l k - 128).toNat + 1, 0)) := by unfold Hid rLen; rw [if_neg hend]
    generalize nth l k = q at *
    by_cases h1 : q < 128
    · rw [if_pos h1] at hR
      go_wp2
      go_ret2
      exact LenRaw.ok hc2 (by omega) hO2 hR.out
    · rw [if_neg h1] at hR
      by_cases h2 : q = 128 ∨ 132 < q
      · rw [if_pos h2] at hR
        rcases h2 with h2 | h2
        · subst h2
          go_wp2
          go_ret2
          exact LenRaw.err hc2 (by omega) hO2 hR.out (by omega)
        · have e1 : (q - 128 == 0) = false := by simp; omega
          go_wp2
          go_ret2
          exact LenRaw.err hc2 (by omega) hO2 hR.out (by omega)
      · rw [if_neg h2] at hR
        have e1 : (q - 128 == 0) = false := by simp; omega
        obtain ⟨cnt, hcnt⟩ : ∃ cnt : Nat, q - 128 = (cnt : Int) := ⟨(q - 128).toNat, by omega⟩
        have hc1 : 1 ≤ cnt := by omega
        have hc4 : cnt ≤ 4 := by omega
        have hct : (q - 128).toNat = cnt := by omega
        rw [hct] at hR
        have HC := Lib.hid hcnt
        have hq1 : 129 ≤ q := by omega
        have hq2 : q ≤ 132 := by omega
        clear hct hcnt h1 h2
        by_cases h3 : l.length < k + 1 + cnt
        · rw [if_pos h3] at hR
          go_wp2_with fail
          refine (curTakeNo g (k + 1) (q - 128) l _ hc2 (.inr (by have := HC.out; omega))).mono ?_
          rw [if_neg (by omega)]
          rintro e w3 ⟨rfl, hq⟩
          go_wp2
          go_ret2
          exact LenRaw.err (hc2.qt hq) (by omega) (hO2.trans (Only.of_qt hq)) hR.out (by omega)
        · rw [if_neg h3] at hR
          go_wp2_with fail
          refine (curTake g (k + 1) cnt (q - 128) l _ hc2 (by omega) HC.out).mono ?_
          rintro e w3 ⟨A, n, c, rfl, hob, hc3, hO3⟩
          obtain ⟨hbs, hnc⟩ := hob.bs
          have hn : n = cnt := by have := hbs.len; simp at this; omega
          subst hn
          have hO3' := hO2.trans hO3
          clear hc2 hO2 hO3 hob
          go_wp2_with fail
          refine (hdGather 256 _).mono ?_
          rintro e w4 ⟨gn, gb, rfl, hgn, hgb, hnb, vn, vb, hB⟩
          have hbs4 := hbs.below hB
          have hc4' := hc3.below hB
          have hO4 : Only g w w4 := hO3'.trans (Only.of_below hB)
          have hsz3 := hO3'.size
          clear hc3 hO3' hB hbs
          go_wp2
          go_loopw [9, 45] (fun v i wr => ∃ (m f : Nat) (z : Int), i = .int .i64 (m : Int) ∧ v = .int .i64 z ∧ m + f = n ∧ 0 ≤ z ∧ z < 4294967296 ∧ (m = 0 → z = 0) ∧ (m = 1 → z < 256) ∧ (m = 2 → z < 65536) ∧ (m = 3 → z < 16777216) ∧
              Hid (bign l (k + 1) n 0 = bign l (k + 1 + m) f z) ∧ Cur wr g s l (k + 1 + n) ∧ Var wr gn z ∧ Var wr gb 256 ∧ Bs wr A n ((l.drop (k + 1)).take n) ∧ Only g w wr) (fun _ i _ => n - (intOf i).toNat)
          case atStart => exact ⟨0, n, 0, rfl, rfl, by omega, by omega, by omega, by omega, by omega, by omega, by omega, rfl, hc4', vn, vb, hbs4, hO4⟩
          case round =>
            obtain ⟨m, f, z, rfl, rfl, hmf, hz0, hz1, hz2, hz3, hz4, hz5, hd, hc, vn, vb, hbs, ho⟩ := hrel
            clear hc4' hbs4 hO4
            by_cases hlt : m < n
            · obtain ⟨b, o, rfl, hcell⟩ := hbs.at_ hlt
              have i1 : (m : Int) < n := by omega
              have hbd2 := nth_bound ((l.drop (k + 1)).take n) m
              have hcut : Hid (nth ((l.drop (k + 1)).take n) m = nth l (k + 1 + m)) := nth_cut hlt
              have hun : Hid (bign l (k + 1) n 0 = bign l (k + 1 + m + 1) (f - 1) (256 * z + nth ((l.drop (k + 1)).take n) m)) := by
                obtain ⟨f', rfl⟩ : ∃ f', f = f' + 1 := ⟨f - 1, by omega⟩
                unfold Hid; rw [hd.out, hcut.out]; rfl
              clear hd hcut
              go_wp2_with fail
              refine (hdGather1 gn gb z 256 _ _ vn vb (.inr rfl) hz0 (by omega) hbd2.1 hbd2.2).mono ?_
              rintro e w5 ⟨rfl, vn5, ho5⟩
              have hc5 := Cur.frame h ho hc ho5 (by intro b hb'; cases hb'; omega)
              have vb5 := vb.grown ho5 (by simpa using hnb.symm)
              have hO5 := Only.grown ho ho5 (by intro b hb'; cases hb'; omega)
              have hbs5 := hbs.only ho5 vn.noByte
              clear hc vn vb ho ho5 hbs hcell
              have hzb : 0 ≤ 256 * z + nth ((l.drop (k + 1)).take n) m ∧ 256 * z + nth ((l.drop (k + 1)).take n) m < 4294967296 := by omega
              have y1 : m + 1 = 1 → 256 * z + nth ((l.drop (k + 1)).take n) m < 256 := by omega
              have y2 : m + 1 = 2 → 256 * z + nth ((l.drop (k + 1)).take n) m < 65536 := by omega
              have y3 : m + 1 = 3 → 256 * z + nth ((l.drop (k + 1)).take n) m < 16777216 := by omega
              generalize 256 * z + nth ((l.drop (k + 1)).take n) m = N at *
              go_wp2
              go_roundw
              case rel => exact ⟨m + 1, f - 1, N, by go_num, rfl, by omega, by omega, by omega, by omega, y1, y2, y3, hun, hc5, vn5, vb5, hbs5, hO5⟩
              case measure => simp [intOf]; omega
            · obtain rfl : m = n := by omega
              obtain rfl : f = 0 := by omega
              have hz : Hid (bign l (k + 1) m 0 = z) := hd.out
              obtain ⟨b, o, rfl, hcell⟩ := hbs.at_ (k := 0) (by omega)
              have hcut : Hid (nth ((l.drop (k + 1)).take m) 0 = nth l (k + 1)) := nth_cut hc1
              rw [hcut.out, Nat.add_zero] at hcell
              rw [hz.out] at hR
              have i0 : (0 : Int) < m := by omega
              have hk' : Hid (k + m + 1 = k + 1 + m) := by unfold Hid; omega
              rw [hk'.out] at hR
              clear hd hz hcut hk'
              generalize nth l (k + 1) = D at *
              by_cases h4 : D = 0 ∨ z < 128
              · rw [if_pos h4] at hR
                by_cases h5 : D = 0
                · subst h5
                  go_wp2
                  go_ret2
                  exact LenRaw.err hc (by omega) ho hR.out (by omega)
                · have e5 : (D == 0) = false := by simp; exact h5
                  have h6 : z < 128 := by omega
                  clear h4
                  go_wp2
                  go_ret2
                  exact LenRaw.err hc (by omega) ho hR.out (by omega)
              · rw [if_neg h4] at hR
                have e5 : (D == 0) = false := by simp; omega
                have h6 : 128 ≤ z := by omega
                clear h4
                by_cases h7 : 16777216 < z
                · rw [if_pos h7] at hR
                  go_wp2
                  go_ret2
                  exact LenRaw.err hc (by omega) ho hR.out (by omega)
                · rw [if_neg h7] at hR
                  go_wp2
                  go_ret2
                  exact LenRaw.ok hc (by omega) ho hR.out

end Go.Proofs.Ytbhfaakhcnkegaa
