/-
  A strings.Builder that the call itself made: copyCheck, WriteByte, WriteString, as this program has them.
-/
import Derived.Test.YtepbjjhidemaiaaGreatDm
import Derived.Test.YtepbjjhidemaiaaGreatOct
import Derived.Lib.Builder
import Derived.Lib.UnsafeStr
import Derived.Lib.AppendStr
namespace Go.Proofs.YtepbjjhidemaiaaGreat
open Go.RowKit
set_option linter.unusedVariables false
set_option linter.unusedSimpArgs false
set_option maxRecDepth 4000


theorem bd_info : (Tryz.prog.info? 117).map (·.size) = some 2 := by kernel_rfl
theorem bd_lies : liesAt Tryz.prog Tryz.prog.depth 117 (2 / Tryz.prog.cellsOf 117) 0 117 1 = true := by kernel_rfl

/-- A builder of the call's own at block b that holds the bytes l. -/
def Sb (w : World) (B b : Nat) (l : List UInt8) : Prop := Lib.IsBuilder 117 5 B b (l.map byteV) w

set_option maxHeartbeats 800000 in
theorem sbCheck (B b : Nat) (l : List UInt8) (w : World) (h : Sb w B b l) :
    Calls Tryz.prog 85 #[.pointer (some ⟨b, 0, none⟩)] w fun e w' => e = .returned (.tuple #[]) ∧ Lib.BuilderAt 117 5 B b (.pointer (some ⟨b, 0, none⟩)) (l.map byteV) w' ∧ Below B w w' := by
  obtain ⟨j, hj, hjs⟩ := Option.map_eq_some_iff.1 bd_info
  unfold Sb at h
  rcases h with h | h
  · have c0 := h.cell0
    have f0 := h.frozen0
    have hsh := h.shape
    have E1 := Lib.run_to_unsafe w ⟨b, 0, none⟩ Tryz.underlying115 Tryz.underlying143 hj (by rw [hjs]; decide) hsh (Nat.zero_lt_succ 1)
    have E2 := Lib.run_from_unsafe w ⟨b, 0, none⟩ Tryz.underlying143 Tryz.underlying115 hj hsh bd_lies
    go_enter Tryz.func85, Tryz.ntmps85
    go_wp2
    rw [run_callFunc_extern Tryz.func94 (by kernel_rfl) (by kernel_rfl) (by kernel_rfl) (e := Extern.AbiNoEscape.same) (by kernel_rfl)]
    rw [Lib.run_noEscape]
    simp only [Result.andThen]
    rw [Oper.upon_value]
    go_wp2
    go_end0
    exact ⟨rfl, h.used _, (Below.refl B w).setCell (p := ⟨b, 0, none⟩) h.1 _⟩
  · have c0 := h.cell0
    have hne := @Lib.run_neq_ptr_same Tryz.prog
    go_enter Tryz.func85, Tryz.ntmps85
    go_wp2
    go_end0
    exact ⟨rfl, h, Below.refl B _⟩

theorem Sb.of {w : World} {B b : Nat} {l : List UInt8} (h : Lib.BuilderAt 117 5 B b (.pointer (some ⟨b, 0, none⟩)) (l.map byteV) w) : Sb w B b l := Or.inr h
theorem byteV_ofNat (x : Int) (h0 : 0 ≤ x) (h1 : x < 256) : Value.int .u8 x = byteV (UInt8.ofNat x.toNat) := by
  unfold byteV
  rw [UInt8.toNat_ofNat']
  congr 1
  omega

set_option maxHeartbeats 1600000 in
theorem sbByte (B b : Nat) (l : List UInt8) (x : Int) (w : World) (h : Sb w B b l) (hl : l.length ≤ 1000000) (hB : B ≤ w.heap.size) (x0 : 0 ≤ x) (x1 : x < 256) :
    Calls Tryz.prog 65 #[.pointer (some ⟨b, 0, none⟩), .int .u8 x] w fun e w' => e = .returned .nilIface ∧ Sb w' B b (l ++ [UInt8.ofNat x.toNat]) ∧ Below B w w' := by
  obtain ⟨i0, hi, hz0, hz1, hz2⟩ := info_parts u8_info
  have hC := Lib.hid (fun W h => sbCheck B b l W h)
  have hx := Lib.hid (byteV_ofNat x x0 x1)
  go_enter Tryz.func65, Tryz.ntmps65
  go_wp2_with fail
  refine (hC.out _ h).mono ?_
  rintro e w1 ⟨rfl, h1, hb1⟩
  obtain ⟨hBb, v, hbk, hown, hne⟩ := h1
  have c0 : w1.cell? ⟨b, 0, none⟩ = some (.pointer (some ⟨b, 0, none⟩)) := by rw [blk_cell hbk]; rfl
  have c1 : w1.cell? ⟨b, 1, none⟩ = some v := by rw [blk_cell hbk]; rfl
  rw [List.length_map] at hown
  go_wp2_with (at_builtin; refine wpList_append_own _ rfl _ _ 22 rfl B 5 i0 (.int .u8 0) 1 1 Tryz.underlying22 hi hz0 hz1 hz2 rfl (by decide) _ _ _ rfl (hown.alloc _) ⟨w1.heap.size, 0, none⟩ 1 1 [.int .u8 x] rfl rfl ?c1 ?c2 ?c3 ?c4 ?c5 ?_)
  case c1 =>
    intro j u hj
    match j, hj with
    | 0, hj => simp at hj; subst hj; simp [Addr.add]
  case c2 => intro u hu; simp at hu; subst hu; rfl
  case c3 => unfold maxLen; omega
  case c4 => omega
  case c5 => have := hb1.size; simp; omega
  intro v' w2 hown' hgrow _
  have hlt : b < w1.heap.size := lt_of_block hbk
  have hb2 : w2.heap[b]? = some (.cells #[.pointer (some ⟨b, 0, none⟩), v] 117 (0, 0)) := by
    rw [hgrow.block b (by simp; omega) (fun e => hne e.symm)]
    exact ((below_alloc1 w1 _).block b hlt).trans hbk
  have d0 : w2.cell? ⟨b, 0, none⟩ = some (.pointer (some ⟨b, 0, none⟩)) := by rw [blk_cell hb2]; rfl
  have d1 : w2.cell? ⟨b, 1, none⟩ = some v := by rw [blk_cell hb2]; rfl
  have f1 : w2.frozen? ⟨b, 1, none⟩ = false := blk_frozen hb2 1
  obtain ⟨g, cap, rfl⟩ : ∃ g cap, v' = .slice (some ⟨g, 0, none⟩) (l.length + 1) cap := by
    rcases hown'.2 with ⟨_, h0⟩ | ⟨g, cap, cur, hv, _⟩
    · omega
    · exact ⟨g, cap, hv⟩
  have HO := Lib.hid hown'
  have HG := Lib.hid hgrow
  have HB2 := Lib.hid hb2
  have HN := Lib.hid hown
  have hs1 := Lib.hid hb1.size
  have HB1 := Lib.hid hb1
  clear hown' hgrow hb2 hown hb1 hbk hne
  go_wp2
  go_ret
  refine ⟨rfl, Sb.of ?_, ?_⟩
  · refine Lib.BuilderAt.put hBb HB2.out (v := v) ?_ (by decide)
    rw [List.map_append, List.length_append, List.length_map]
    have := HO.out
    rw [hx.out] at this
    exact this
  · exact ((HB1.out.alloc (by have := hs1.out; omega) _).grown HG.out (by have := hs1.out; simp; omega) (fun k hk => (HN.out.lt k hk).1)).setCell (p := ⟨b, 1, none⟩) hBb _

set_option maxHeartbeats 1600000 in
theorem sbString (B b : Nat) (l r : List UInt8) (w : World) (h : Sb w B b l) (hl : l.length ≤ 1000000) (hr : r.length ≤ 1000000) (hB : B ≤ w.heap.size) :
    Calls Tryz.prog 64 #[.pointer (some ⟨b, 0, none⟩), .string ⟨r.toArray⟩] w fun e w' => e = .returned (.tuple #[.int .i64 r.length, .nilIface]) ∧ Sb w' B b (l ++ r) ∧ Below B w w' := by
  obtain ⟨i0, hi, hz0, hz1, hz2⟩ := info_parts u8_info
  have hC := Lib.hid (fun W h => sbCheck B b l W h)
  have hsz : (⟨r.toArray⟩ : ByteArray).size = r.length := by simp [ByteArray.size]
  go_enter Tryz.func64, Tryz.ntmps64
  go_wp2_with fail
  refine (hC.out _ h).mono ?_
  rintro e w1 ⟨rfl, h1, hb1⟩
  obtain ⟨hBb, v, hbk, hown, hne⟩ := h1
  have c0 : w1.cell? ⟨b, 0, none⟩ = some (.pointer (some ⟨b, 0, none⟩)) := by rw [blk_cell hbk]; rfl
  have c1 : w1.cell? ⟨b, 1, none⟩ = some v := by rw [blk_cell hbk]; rfl
  rw [List.length_map] at hown
  go_wp2_with (at_builtin; refine Lib.wpList_append_own_string _ rfl _ _ 22 9 rfl B 5 i0 Tryz.underlying22 Tryz.underlying9 hi hz0 hz1 hz2 _ _ _ rfl hown ⟨r.toArray⟩ rfl ?c3 ?c4 ?c5 ?_)
  case c3 => unfold maxLen; omega
  case c4 => omega
  case c5 => have := hb1.size; omega
  intro v' w2 hown' hgrow _
  have hlt : b < w1.heap.size := lt_of_block hbk
  have hb2 : w2.heap[b]? = some (.cells #[.pointer (some ⟨b, 0, none⟩), v] 117 (0, 0)) := by
    rw [hgrow.block b (by omega) (fun e => hne e.symm)]
    exact hbk
  have d0 : w2.cell? ⟨b, 0, none⟩ = some (.pointer (some ⟨b, 0, none⟩)) := by rw [blk_cell hb2]; rfl
  have d1 : w2.cell? ⟨b, 1, none⟩ = some v := by rw [blk_cell hb2]; rfl
  have f1 : w2.frozen? ⟨b, 1, none⟩ = false := blk_frozen hb2 1
  obtain ⟨ao, n', cap, rfl⟩ : ∃ ao n' cap, v' = .slice ao n' cap := by
    rcases hown'.2 with ⟨hv, h0⟩ | ⟨g, cap, cur, hv, _⟩
    · exact ⟨_, _, _, hv⟩
    · exact ⟨_, _, _, hv⟩
  have HO := Lib.hid hown'
  have HG := Lib.hid hgrow
  have HB2 := Lib.hid hb2
  have HN := Lib.hid hown
  have hs1 := Lib.hid hb1.size
  have HB1 := Lib.hid hb1
  clear hown' hgrow hb2 hown hb1 hbk hne
  go_wp2
  go_ret2
  refine ⟨by first | rfl | (rw [← hsz]; rfl), Sb.of ?_, ?_⟩
  · refine Lib.BuilderAt.put hBb HB2.out (v := v) ?_ (by decide)
    rw [List.map_append, List.length_append, List.length_map, List.length_map]
    exact HO.out
  · exact (HB1.out.grown HG.out (by have := hs1.out; omega) (fun k hk => (HN.out.lt k hk).1)).setCell (p := ⟨b, 1, none⟩) hBb _
end Go.Proofs.YtepbjjhidemaiaaGreat
