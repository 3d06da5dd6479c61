/-
  A sheet's frame: hold, contents.
-/
import Derived.Test.YtbhfaakhcnkegaaWd
namespace Go.Proofs.Ytbhfaakhcnkegaa
open Go.RowKit
set_option linter.unusedVariables false
set_option linter.unusedSimpArgs false
set_option maxRecDepth 4000

theorem Sht.blk1 {w w1 : World} {S : Nat} {fp : List Nat} {F : Fr} {Fs : List Fr} {e : Int} {v va : Value} {vs : List Value} (h : Sht w S fp F Fs e v va vs) (hg : w.grownBy w1 v.ownBlock) : Blk w1 S 86 (frC F v ++ [va, .int .i64 e]) := by
  have hSv : v.ownBlock ≠ some S := h.blk.notRow (h.held.2 0 F rfl |>.elim fun u ⟨hu, ho⟩ => by simp at hu; subst hu; exact ho) (by decide)
  exact (hg.block S h.blk.lt (fun e => hSv e.symm)).trans h.blk

/-- What a call on a sheet leaves. -/
def ShOk (w : World) (S : Nat) (fp : List Nat) (F : Fr) (Fs : List Fr) (e : Int) (w' : World) : Prop := ∃ fp', Sh w' S fp' F Fs e ∧ OnlyF fp w w' ∧ Grew w.heap.size fp fp'

set_option maxHeartbeats 1600000 in
theorem bdHold (S : Nat) (fp : List Nat) (F : Fr) (Fs : List Fr) (er : Int) (A : Option Addr) (n c : Nat) (ls : List (List UInt8)) (w : World) (h : Sh w S fp F Fs er) (hr : ∀ W, OnlyF fp w W → Bss W A n ls) (hn : n ≤ 1099511627776) (hlen : F.b.length + ls.flatten.length ≤ 1099511627776) :
    Calls Try.prog 46 #[.pointer (some ⟨S, 0, none⟩), .slice A n c] w fun e w' => e = .returned (.tuple #[]) ∧ ShOk w S fp ⟨F.t, F.set, F.b ++ ls.flatten⟩ Fs er w' := by
  obtain ⟨i0, hi, hz0, hz1, hz2⟩ := info_parts u8_info
  have hle := fun k => catL_le ls k
  have HLE := Lib.hid hle; clear hle
  have HR := Lib.hid hr
  have hll := (hr w (OnlyF.refl _ _)).len
  have HLL := Lib.hid hll
  clear hr hll
  go_enter Try.func46, Try.ntmps46
  go_wp2_with fail
  go_loopw [8] (fun i wr => ∃ k : Nat, k ≤ n ∧ i = .int .i64 (k : Int) ∧ ShOk w S fp ⟨F.t, F.set, F.b ++ catL ls k⟩ Fs er wr) (fun i _ => n - (intOf i).toNat)
  case atStart => exact ⟨0, Nat.zero_le _, rfl, fp, by simpa [catL] using h, OnlyF.refl _ _, Grew.refl _ _⟩
  case round =>
    obtain ⟨k, hk, rfl, fp', hS, hO, hG⟩ := hrel
    by_cases hlt : k < n
    · obtain ⟨b, o, Ai, ni, ci, rfl, hc, hbs, hni⟩ := (HR.out _ hO).at_ hlt
      have hcat : Hid (F.b ++ catL ls (k + 1) = (F.b ++ catL ls k) ++ rowL ls k) := by
        unfold Hid
        rw [catL_succ (by have := HLL.out; omega), List.append_assoc]
      have hsz : Hid ((F.b ++ catL ls k).length + ni ≤ 1099511627776) := by
        have h1 := hbs.len
        have h2 := HLE.out (k + 1)
        rw [catL_succ (by have := HLL.out; omega), List.length_append, h1] at h2
        unfold Hid
        rw [List.length_append]; omega
      generalize F.b ++ catL ls k = L at *
      obtain ⟨v, va, vs, hT⟩ := hS
      have HT := Lib.hid hT
      obtain ⟨⟨_, _, _, _, c4, _, _⟩, hf⟩ := hT.cells
      have f4 := hf 4
      clear hf hT
      have hob : Hid (Ob wr 0 5 v L) := by
        obtain ⟨u, hu, ho⟩ := HT.out.held.2 0 _ rfl
        simp at hu; subst hu; exact ho
      go_wp2_with (at_builtin; refine wpList_appendB rfl _ _ 41 rfl 0 5 i0 (.int .u8 0) Try.underlying41 hi hz0 hz1 hz2 rfl _ L rfl hob.out _ _ _ (rowL ls k) rfl hbs ?ab1 ?ab2 ?_)
      case ab1 => have := hsz.out; omega
      intro v' w1 hob1 hg1 _ hv1
      have hput := HT.out.put hg1 hob1 hv1 (fun k hk => (hob1.lt k hk).2)
      have hgrew := Sht.put_grew (n := w.heap.size) hO.size hv1 (HT.out.inV v (by simp))
      have hblk1 := HT.out.blk1 hg1
      have c41 := hblk1.cell 4
      have f41 := hblk1.free 4
      simp [frC] at c41
      clear hblk1
      obtain ⟨A2, c2, rfl, _, _⟩ := hob1.slice
      generalize (L ++ rowL ls k).length = N2 at *
      have HP := Lib.hid hput
      clear hput hob1 hg1 c4 f4 hc hbs
      go_wp2
      go_roundw
      case rel => exact ⟨k + 1, by omega, by go_num, _, ⟨_, va, vs, by rw [hcat.out]; exact HP.out.1⟩, hO.trans HP.out.2 hG, hG.trans hgrew (Nat.le_refl _)⟩
      case measure => simp [intOf]; omega
    · have hkn : Hid (catL ls k = ls.flatten) := catL_all (by have := HLL.out; omega)
      have HS := Lib.hid hS
      clear hS
      go_wp2
      go_end0
      exact ⟨rfl, fp', by rw [← hkn.out]; exact HS.out, hO, hG⟩

set_option maxHeartbeats 1600000 in
theorem bdContents (S : Nat) (fp : List Nat) (F : Fr) (Fs : List Fr) (er : Int) (v va : Value) (vs : List Value) (w : World) (h : Sht w S fp F Fs er v va vs) :
    Calls Try.prog 52 #[.pointer (some ⟨S, 0, none⟩)] w fun e w' => (∃ A, e = .returned (.slice A F.b.length F.b.length) ∧ Bs w' A F.b.length F.b) ∧ Qt w w' := by
  obtain ⟨⟨_, _, _, _, c4, _, _⟩, hf⟩ := h.cells
  have hob : Ob w 0 5 v F.b := by
    obtain ⟨u, hu, ho⟩ := h.held.2 0 _ rfl
    simp at hu; subst hu; exact ho
  obtain ⟨A, c, rfl, hc, hbs⟩ := hob.slice
  have HB := Lib.hid (fun k => hbs.drewN k)
  clear hob hf h hbs
  generalize hN : F.b.length = N at *
  have e1 : (N : Int) ≤ c := by omega
  clear hN
  go_enter Try.func52, Try.ntmps52
  go_wp2_with fail
  go_quiet (fail)
  go_wp2
  go_ret
  exact ⟨⟨A, rfl, HB.out _⟩, Qt.of _ _⟩

end Go.Proofs.Ytbhfaakhcnkegaa
