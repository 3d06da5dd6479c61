/-
  The contracts of the project's whole: the text of -256 (the chapter's example).
-/
import Derived.Test.YtbjiknfebocepaaDoorFu
import Derived.Test.YtbjiknfebocepaaDoorWd
import Derived.Test.YtbjiknfebocepaaDoorVal
import Derived.Deep.RegionWith
import Derived.Deep.Cut
namespace Go.Proofs.YtbjiknfebocepaaDoor
open Go.RowKit Go.Joins
set_option linter.unusedVariables false
set_option linter.unusedSimpArgs false
set_option maxRecDepth 4000

set_option maxHeartbeats 1600000 in
theorem div64lo (y : Nat) (w : World) (hy : y < 18446744073709551616) :
    Calls Tryd.prog 68 #[.int .u64 0, .int .u64 (y : Int), .int .u64 10000000000000000000] w fun e w' => e = .returned (.tuple #[.int .u64 ((y / 10000000000000000000 : Nat) : Int), .int .u64 ((y % 10000000000000000000 : Nat) : Int)]) ∧ Qt w w' := by
  have e1 : (y : Int).tdiv 10000000000000000000 = ((y / 10000000000000000000 : Nat) : Int) := by rw [Int.tdiv_eq_ediv_of_nonneg (by omega)]; omega
  have e2 : (y : Int).tmod 10000000000000000000 = ((y % 10000000000000000000 : Nat) : Int) := by rw [Int.tmod_eq_emod_of_nonneg (by omega)]; omega
  go_enter Tryd.func68, Tryd.ntmps68
  go_wp2
  go_quiet (fail)
  go_wp2
  go_ret2
  exact ⟨rfl, Qt.of _ _⟩

def SomeNil (w : World) (e : Ending) (w' : World) : Prop := ∃ A' c', e = .returned (.slice A' 0 c') ∧ w = w'
/-- What trimWords goes through. -/
def TwRel (g : Nat) (v : Value) : Prop := ∃ A' n' c', v = .slice A' n' c' ∧ (n' = 0 ∨ n' = 1 ∧ A' = some ⟨g, 0, none⟩ ∧ 1 ≤ c')
theorem TwRel.nil (g : Nat) (A : Option Addr) (c : Nat) : TwRel g (.slice A 0 c) := ⟨_, _, _, rfl, .inl rfl⟩
theorem whTrimWords1 (g c : Nat) (w : World) (h : w.cell? ⟨g, 0, none⟩ = some (.int .u64 0)) (hc : 1 ≤ c) :
    Calls Tryd.prog 59 #[.slice (some ⟨g, 0, none⟩) 1 c] w (SomeNil w) := by
  go_enter Tryd.func59, Tryd.ntmps59
  go_wp2
  go_loop [0] (fun v => TwRel g v) (fun v => lenV v)
  case atStart => exact ⟨_, _, _, rfl, .inr ⟨rfl, rfl, hc⟩⟩
  case round =>
    obtain ⟨A', n', c', rfl, hh⟩ := hrel
    rcases hh with rfl | ⟨rfl, rfl, hc'⟩
    · go_wp2
      go_ret
      exact ⟨_, _, rfl, rfl⟩
    · go_wp2
      go_round
      case rel => exact TwRel.nil _ _ _
      case measure => simp [lenV]

/-- make([]uint64, 1). -/
theorem u64_info : (Tryd.prog.info? 67).map (fun i => (i.zero, i.size, i.bytes)) = some (some (.int .u64 0), 1, 8) := by kernel_rfl
theorem run_makeU1 (W : World) : (Instr.makeSlice 81 (.int .i64 1) (.int .i64 1)).run Tryd.prog W = .ok (.slice (some ⟨W.heap.size, 0, none⟩) 1 1) (W.alloc (.cells #[.int .u64 0] 67)) := by
  obtain ⟨i0, hi, hz0, hz1, hz2⟩ := info_parts u64_info
  have := run_make (P := Tryd.prog) W 81 67 i0 _ Tryd.underlying81 hi hz0 .i64 .i64 1 1 (by omega) (by omega) (by rw [hz2]; omega) (by omega)
  rw [hz1, show madeCells (Value.int .u64 0).cells (Int.toNat 1 * 1) = #[.int .u64 0] by kernel_rfl] at this
  exact this

set_option maxHeartbeats 3200000 in
theorem whWords256 (A : Option Addr) (c : Nat) (w : World) (h : Bs w A 2 [1, 0]) :
    Calls Tryd.prog 56 #[.slice A 2 c] w fun e w' => ∃ g, e = .returned (.slice (some ⟨g, 0, none⟩) 1 1) ∧ w.heap.size ≤ g ∧ Blk w' g 67 [.int .u64 256] ∧ Below w.heap.size w w' := by
  have hmk := run_makeU1
  have k0 := Blk.new w [.int .u64 0] 67
  have hB0 := below_alloc1 w (Obj.cells #[.int .u64 0] 67)
  have p0 : pl [1, 0] 0 = 0 := by rfl
  have p1 : pl [1, 0] 1 = 1 := by rfl
  have P0 := Lib.hid p0
  have P1 := Lib.hid p1
  clear p0 p1
  go_enter Tryd.func56, Tryd.ntmps56
  go_wp2
  generalize hR : w.heap.size = R at *
  have HR := Lib.hid hR; clear hR
  generalize (w.alloc (Obj.cells #[Value.int .u64 0] 67)) = W0 at *
  go_loopw [13] (fun i wr => ∃ k : Nat, k ≤ 2 ∧ i = .int .i64 (k : Int) ∧ Blk wr R 67 [.int .u64 (if k = 2 then 256 else 0)] ∧ Below w.heap.size w wr) (fun i _ => 2 - (intOf i).toNat)
  case atStart => exact ⟨0, by omega, rfl, k0, by rw [HR.out]; exact hB0⟩
  case round =>
    obtain ⟨k, hk, rfl, hK, hB⟩ := hrel
    clear k0 hB0
    have hb := h.below hB
    have cc := hK.cell 0
    have ff := hK.free 0
    simp at cc
    match k, hk with
    | 0, _ =>
      have PL : Hid (∀ W, Bs W A 2 [1, 0] → Calls Tryd.prog 55 #[.slice A 2 c, .int .i64 0] W fun e w' => e = .returned (.int .i64 0) ∧ W = w') := by
        intro W hW
        have := whPlace A 2 c 0 0 [1, 0] W hW rfl (by omega)
        rw [P0.out] at this; exact this
      simp at cc
      have iw0 : IntKind.i64.wrap 0 = 0 := by decide
      have uw0 : IntKind.u64.wrap 0 = 0 := by decide
      have bo : bits BinOp.or IntKind.u64 0 0 = 0 := by decide +kernel
      go_wp2
      go_region_with (first | (go_at_call 55; refine (PL.out _ ?_).mono ?_; exact hb; rintro e w1 ⟨rfl, rfl⟩))
      all_goals
        go_wp2
        refine ⟨⟨1, by omega, rfl, ?_, ?_⟩, by simp [intOf]⟩
        · show Blk (wr.setCell ⟨R, 0, none⟩ (.int .u64 0)) R _ _
          simpa using hK.set 0 (.int .u64 0)
        · exact (Only.below ((Only.refl R wr).setCell (p := ⟨R, 0, none⟩) rfl (.int .u64 0)) hB (by rw [HR.out]; exact Nat.le_refl _) hB.size).drew
    | 1, _ =>
      have PL : Hid (∀ W, Bs W A 2 [1, 0] → Calls Tryd.prog 55 #[.slice A 2 c, .int .i64 1] W fun e w' => e = .returned (.int .i64 1) ∧ W = w') := by
        intro W hW
        have := whPlace A 2 c 1 1 [1, 0] W hW rfl (by omega)
        rw [P1.out] at this; exact this
      simp at cc
      have iw0 : IntKind.i64.wrap 0 = 0 := by decide
      have iw8 : IntKind.i64.wrap 8 = 8 := by decide
      have uw1 : IntKind.u64.wrap 1 = 1 := by decide
      have uw256 : IntKind.u64.wrap 256 = 256 := by decide
      have bo : bits BinOp.or IntKind.u64 0 256 = 256 := by decide +kernel
      go_wp2
      go_region_with (first | (go_at_call 55; refine (PL.out _ ?_).mono ?_; exact hb; rintro e w1 ⟨rfl, rfl⟩))
      all_goals
        go_wp2
        refine ⟨⟨2, by omega, rfl, ?_, ?_⟩, by simp [intOf]⟩
        · show Blk (wr.setCell ⟨R, 0, none⟩ (.int .u64 256)) R _ _
          simpa using hK.set 0 (.int .u64 256)
        · exact (Only.below ((Only.refl R wr).setCell (p := ⟨R, 0, none⟩) rfl (.int .u64 256)) hB (by rw [HR.out]; exact Nat.le_refl _) hB.size).drew
    | 2, _ =>
      simp only [if_true] at hK
      go_wp2
      go_ret
      exact ⟨R, rfl, by rw [HR.out]; omega, hK, hB⟩

set_option maxHeartbeats 3200000 in
theorem whDivide1 (g : Nat) (y : Nat) (w : World) (hy : y < 10000000000000000000) (h : Blk w g 67 [.int .u64 (y : Int)]) :
    Calls Tryd.prog 58 #[.slice (some ⟨g, 0, none⟩) 1 1] w fun e w' => e = .returned (.int .u64 (y : Int)) ∧ Blk w' g 67 [.int .u64 0] ∧ Only g w w' := by
  have DV : Hid (∀ W, Calls Tryd.prog 68 #[.int .u64 0, .int .u64 (y : Int), .int .u64 10000000000000000000] W fun e w' => e = .returned (.tuple #[.int .u64 0, .int .u64 (y : Int)]) ∧ Qt W w') := by
    intro W
    have := div64lo y W (by omega)
    rw [Nat.div_eq_of_lt hy, Nat.mod_eq_of_lt hy] at this
    exact this
  have c0 := h.cell 0
  have f0 := h.free 0
  simp at c0
  go_enter Tryd.func58, Tryd.ntmps58
  go_wp2
  go_loopw [3, 7] (fun rv i wr => (i = .int .i64 0 ∧ rv = .int .u64 0 ∧ wr = w) ∨ (i = .int .i64 1 ∧ rv = .int .u64 (y : Int) ∧ Blk wr g 67 [.int .u64 0] ∧ Only g w wr)) (fun _ i _ => 1 - (intOf i).toNat)
  case atStart => exact .inl ⟨rfl, rfl, rfl⟩
  case round =>
    rcases hrel with ⟨rfl, rfl, rfl⟩ | ⟨rfl, rfl, hK, hO⟩
    · go_wp2_with fail
      refine (DV.out _).mono ?_
      rintro e w2 ⟨rfl, q⟩
      have k2 := h.below q.below
      have c2 := k2.cell 0
      have f2 := k2.free 0
      simp at c2
      have o2 : Only g wr w2 := Only.of_qt q
      go_wp2
      refine ⟨.inr ⟨rfl, rfl, ?_, ?_⟩, by simp [intOf]⟩
      · simpa using k2.set 0 (.int .u64 0)
      · exact o2.setCell rfl _
    · go_wp2
      go_ret
      exact ⟨rfl, hK, hO⟩
end Go.Proofs.YtbjiknfebocepaaDoor
