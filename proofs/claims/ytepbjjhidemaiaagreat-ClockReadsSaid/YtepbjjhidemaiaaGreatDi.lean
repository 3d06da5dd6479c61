/-
  The project's date: pairs.
-/
import Derived.Test.YtepbjjhidemaiaaGreatDg
import Derived.Test.YtepbjjhidemaiaaGreatDh
import Derived.Test.YtepbjjhidemaiaaGreatShelf
namespace Go.Proofs.YtepbjjhidemaiaaGreat
open Go.RowKit
set_option linter.unusedVariables false
set_option linter.unusedSimpArgs false
set_option maxRecDepth 4000

/-- A number in two digits. -/
def tw (z : Int) : List UInt8 := [UInt8.ofNat (48 + z / 10).toNat, UInt8.ofNat (48 + z % 10).toNat]
/-- The first k numbers, with the mark between them. -/
def prK (m : List UInt8) (zs : List Int) : Nat → List UInt8
  | 0 => []
  | k + 1 => prK m zs k ++ (if k = 0 then [] else m) ++ tw (zs.getD k 0)
theorem prK_len (m : List UInt8) (zs : List Int) (k : Nat) : (prK m zs k).length ≤ (m.length + 2) * k := by
  induction k with
  | zero => simp [prK]
  | succ k ih =>
    have h1 : (prK m zs (k + 1)).length = (prK m zs k).length + (if k = 0 then [] else m).length + 2 := by simp [prK, tw, Nat.add_assoc]
    have h2 : (if k = 0 then [] else m).length ≤ m.length := by split <;> simp
    rw [h1, Nat.mul_add]; omega

/-- What pairs hands back. -/
def strV (l : List UInt8) : Value := .string ⟨l.toArray⟩
theorem Sb.fresh (w : World) (B : Nat) (h : B ≤ w.heap.size) : Sb (w.alloc (.cells #[.pointer none, .slice none 0 0] 117)) B w.heap.size [] :=
  Or.inl ⟨h, _, heap_alloc_new w _, World.ownsRow_nil _ _ _ _, by simp [Value.ownBlock]⟩

set_option maxHeartbeats 1600000 in
theorem dtPairs (m : List UInt8) (g n : Nat) (zs : List Int) (w : World) (hm : m.length ≤ 10) (hn : n ≤ 10) (hz : zs.length = n) (hr : ∀ z ∈ zs, 0 ≤ z ∧ z < 100) (h : Blk w g 3 (zs.map fun z => .int .i64 z)) :
    Calls Tryz.prog 45 #[strV m, .slice (some ⟨g, 0, none⟩) n n] w fun e w' => e = .returned (strV (prK m zs n)) ∧ Below w.heap.size w w' := by
  unfold strV
  have HS := Lib.hid (fun W l h hl hB => sbString w.heap.size w.heap.size l m W h hl (by omega) hB)
  have HY := Lib.hid (fun W l x h hl hB h0 h1 => sbByte w.heap.size w.heap.size l x W h hl hB h0 h1)
  have HT := Lib.hid (fun W l h hB => Tryz.Builder_String_any w.heap.size w.heap.size l W h hB)
  have hF := Sb.fresh w w.heap.size (Nat.le_refl _)
  have hB0 := below_alloc1 w (.cells #[.pointer none, .slice none 0 0] 117)
  have HF := Lib.hid hF
  have HB0 := Lib.hid hB0
  have HR := Lib.hid hr
  have HL := Lib.hid (fun k => prK_len m zs k)
  clear hF hB0 hr
  go_enter Tryz.func45, Tryz.ntmps45
  go_wp2
  go_loopw [10] (fun i wr => ∃ k : Nat, k ≤ n ∧ i = .int .i64 (k : Int) ∧ Sb wr w.heap.size w.heap.size (prK m zs k) ∧ Below w.heap.size w wr) (fun i _ => n - (intOf i).toNat)
  case atStart => exact ⟨0, Nat.zero_le _, rfl, HF.out, HB0.out⟩
  case round =>
    obtain ⟨k, hk, rfl, hs, hB⟩ := hrel
    by_cases hlt : k < n
    · obtain ⟨z, hzk⟩ : ∃ z, zs[k]? = some z := ⟨_, List.getElem?_eq_getElem (by omega)⟩
      have hzr := HR.out z (List.mem_of_getElem? hzk)
      have hzd : Hid (zs.getD k 0 = z) := by unfold Hid; rw [List.getD_eq_getElem?_getD, hzk]; rfl
      have hcell : wr.cell? ⟨g, k, none⟩ = some (.int .i64 z) := by
        have hb := h.belowB hB h.lt
        rw [hb.cell, List.getElem?_map, hzk]; rfl
      have e1 : (k : Int) < n := by omega
      have hlen : Hid ((prK m zs k).length ≤ 120) := by
        have h1 := HL.out k
        have h2 : (m.length + 2) * k ≤ 12 * 10 := Nat.mul_le_mul (by omega) (by omega)
        unfold Hid; omega
      have q1 : z.tdiv 10 = z / 10 := Int.tdiv_eq_ediv_of_nonneg (by omega)
      have q2 : z.tmod 10 = z % 10 := Int.tmod_eq_emod_of_nonneg (by omega)
      have q3 : z / 10 % 256 = z / 10 := by omega
      have q4 : z % 10 % 256 = z % 10 := by omega
      have q5 : (48 + z / 10) % 256 = 48 + z / 10 := by omega
      have q6 : (48 + z % 10) % 256 = 48 + z % 10 := by omega
      have HSb := Lib.hid hs
      have HB := Lib.hid hB
      clear hs hB hzk
      by_cases hk0 : k = 0
      · have hnew : Hid (prK m zs (k + 1) = prK m zs k ++ tw (zs.getD k 0)) := by unfold Hid; rw [prK, if_pos hk0, List.append_nil]
        subst hk0
        go_wp2_with fail
        refine (HY.out _ _ _ HSb.out (by have := hlen.out; omega) HB.out.size (by omega) (by omega)).mono ?_
        rintro e w3 ⟨rfl, hs3, hb3⟩
        have HSb3 := Lib.hid hs3
        have HB3 := Lib.hid (HB.out.trans hb3)
        clear hs3 hb3
        go_wp2_with fail
        refine (HY.out _ _ _ HSb3.out (by have := hlen.out; (try simp only [List.length_append] at this); simp; omega) HB3.out.size (by omega) (by omega)).mono ?_
        rintro e w4 ⟨rfl, hs4, hb4⟩
        have HSb4 := Lib.hid hs4
        have HB4 := Lib.hid (HB3.out.trans hb4)
        clear hs4 hb4
        go_wp2
        go_roundw
        case rel => exact ⟨0 + 1, by omega, by go_num, by rw [hnew.out, hzd.out]; simpa [tw] using HSb4.out, HB4.out⟩
        case measure => simp [intOf]; omega
      · have hnew : Hid (prK m zs (k + 1) = prK m zs k ++ m ++ tw (zs.getD k 0)) := by unfold Hid; rw [prK, if_neg hk0]
        have e2 : (0 : Int) < (k : Int) := by omega
        have e3 : 0 < k := by omega
        go_wp2_with fail
        refine (HS.out _ _ HSb.out (by have := hlen.out; omega) HB.out.size).mono ?_
        rintro e w2 ⟨rfl, hs2, hb2⟩
        have HB2 := Lib.hid (HB.out.trans hb2)
        have HSb2 := Lib.hid hs2
        have hcell2 := (HB2.out.block g h.lt)
        have hlen2 : Hid ((prK m zs k ++ m).length ≤ 130) := by have := hlen.out; unfold Hid; rw [List.length_append]; omega
        clear hs2 hb2 hcell2
        go_wp2_with fail
        refine (HY.out _ _ _ HSb2.out (by have := hlen2.out; omega) HB2.out.size (by omega) (by omega)).mono ?_
        rintro e w3 ⟨rfl, hs3, hb3⟩
        have HSb3 := Lib.hid hs3
        have HB3 := Lib.hid (HB2.out.trans hb3)
        clear hs3 hb3
        go_wp2_with fail
        refine (HY.out _ _ _ HSb3.out (by have := hlen2.out; (try simp only [List.length_append] at this); simp; omega) HB3.out.size (by omega) (by omega)).mono ?_
        rintro e w4 ⟨rfl, hs4, hb4⟩
        have HSb4 := Lib.hid hs4
        have HB4 := Lib.hid (HB3.out.trans hb4)
        clear hs4 hb4
        go_wp2
        go_roundw
        case rel => exact ⟨k + 1, by omega, by go_num, by rw [hnew.out, hzd.out]; simpa [tw] using HSb4.out, HB4.out⟩
        case measure => simp [intOf]; omega
    · have hkn : k = n := by omega
      have e1 : ¬ (k : Int) < n := by omega
      subst hkn
      have HSb := Lib.hid hs
      have HB := Lib.hid hB
      clear hs hB
      go_wp2_with fail
      refine (HT.out _ _ HSb.out HB.out.size).mono ?_
      rintro e w5 ⟨rfl, hb5⟩
      have HB5 := Lib.hid (HB.out.trans hb5)
      clear hb5
      go_wp2
      go_ret
      exact ⟨rfl, HB5.out⟩
end Go.Proofs.YtepbjjhidemaiaaGreat
