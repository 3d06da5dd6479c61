/-
  The contracts of the project's text: plain, Kinds, isKind, has, decodeBmp, decodeUtf8, decode; and of strings.ContainsRune at the signs of a printable text.
-/
import Derived.Test.YtoklonnajpjgjaaDoorShelf
import Derived.Test.YtoklonnajpjgjaaDoorOct
import Derived.Test.YtoklonnajpjgjaaDoorVal
import Derived.Test.YtoklonnajpjgjaaDoorBlk
import Derived.Deep.LoopGhost
import Derived.Lib.IndexBytes
import Derived.Test.YtoklonnajpjgjaaDoorTx
import Derived.Laws.Runes
import Derived.Laws.RangeString
import Derived.Laws.Strings3
namespace Go.Proofs.YtoklonnajpjgjaaDoor
open Go.RowKit
set_option linter.unusedVariables false
set_option linter.unusedSimpArgs false
set_option maxRecDepth 4000

/-- The library's two tables of UTF-8. -/
def Tb (w : World) : Prop := Lib.Utf8Tabs 1 2 w
theorem Tb.below {w w' : World} (h : Tb w) (hb : Below w.heap.size w w') : Tb w' :=
  ⟨fun c hc => (hb.cell (World.block_lt_of_cell? w _ (h.1 c hc))).trans (h.1 c hc),
   fun i hi => ⟨(hb.cell (World.block_lt_of_cell? w _ (h.2 i hi).1)).trans (h.2 i hi).1, (hb.cell (World.block_lt_of_cell? w _ (h.2 i hi).2)).trans (h.2 i hi).2⟩⟩

theorem txPlain (r : Int) (w : World) : Calls Tryd.prog 58 #[.int .i32 r] w fun e w' => e = .returned (.bool (plainT r)) ∧ w' = w := by
  unfold plainT
  go_enter Tryd.func58, Tryd.ntmps58
  by_cases h1 : 97 ≤ r
  · by_cases h2 : r ≤ 122
    · rw [decide_eq_true (by omega)]; go_wp2; go_ret; exact ⟨rfl, rfl⟩
    · have h3 : ¬ r ≤ 90 := by omega
      have h4 : ¬ r ≤ 57 := by omega
      have h5 : 65 ≤ r := by omega
      have h6 : 48 ≤ r := by omega
      rw [decide_eq_false (by omega)]; go_wp2; go_ret; exact ⟨rfl, rfl⟩
  · by_cases h5 : 65 ≤ r
    · have h6 : 48 ≤ r := by omega
      have h4 : ¬ r ≤ 57 := by omega
      by_cases h3 : r ≤ 90
      · rw [decide_eq_true (by omega)]; go_wp2; go_ret; exact ⟨rfl, rfl⟩
      · rw [decide_eq_false (by omega)]; go_wp2; go_ret; exact ⟨rfl, rfl⟩
    · by_cases h6 : 48 ≤ r
      · by_cases h4 : r ≤ 57
        · rw [decide_eq_true (by omega)]; go_wp2; go_ret; exact ⟨rfl, rfl⟩
        · rw [decide_eq_false (by omega)]; go_wp2; go_ret; exact ⟨rfl, rfl⟩
      · rw [decide_eq_false (by omega)]; go_wp2; go_ret; exact ⟨rfl, rfl⟩

theorem txKinds (w : World) : Calls Tryd.prog 38 #[] w fun e w' => e = .returned (.slice (some ⟨w.heap.size, 0, none⟩) 6 6) ∧ Zs w' (some ⟨w.heap.size, 0, none⟩) 6 [12, 19, 20, 22, 26, 30] ∧ Below w.heap.size w w' := by
  go_enter Tryd.func38, Tryd.ntmps38
  go_wp2
  go_ret
  exact ⟨rfl, Zs.newL w [12, 19, 20, 22, 26, 30] _ _ _ rfl, below_alloc1 _ _⟩

/-- slices.Contains of ints. -/
theorem slContains (A : Option Addr) (n c : Nat) (l : List Int) (x : Int) (w : World) (h : Zs w A n l) (hn : n ≤ 1099511627776) :
    Calls Tryd.prog 56 #[.slice A n c, .int .i64 x] w fun e w' => e = .returned (.bool (l.contains x)) ∧ w' = w := by
  have hl := h.len
  by_cases h0 : n = 0
  · subst h0
    have : l = [] := List.eq_nil_of_length_eq_zero hl
    subst this
    exact Tryd.slices_Contains_int_empty A c x w
  · obtain ⟨b, o, rfl, _⟩ := h.at_ (k := 0) (by omega)
    have key := Tryd.slices_Contains_int b o n c l x w (by omega) (by omega) (fun j hj => by
      obtain ⟨b', o', e, hc⟩ := h.at_ (k := j) (by omega)
      cases e
      exact hc)
    rw [← hl, List.take_length] at key
    rw [← hl]
    exact key

theorem isK_contains (k : Int) : List.contains [12, 19, 20, 22, 26, 30] k = isK k := by
  rw [Bool.eq_iff_iff]; simp [isK]
theorem txIsKind (k : Int) (w : World) : Calls Tryd.prog 39 #[.int .i64 k] w fun e w' => e = .returned (.bool (isK k)) ∧ Below w.heap.size w w' := by
  go_enter Tryd.func39, Tryd.ntmps39
  go_wp2_with fail
  refine (txKinds _).mono ?_
  rintro e w1 ⟨rfl, hz, hb⟩
  have hC := slContains _ 6 6 _ k _ hz (by omega)
  rw [isK_contains] at hC
  go_wp2_with fail
  refine hC.mono ?_
  rintro e w2 ⟨rfl, rfl⟩
  go_wp2
  go_ret
  exact ⟨rfl, hb⟩

theorem marks_lt : ∀ b ∈ ([32, 39, 40, 41, 43, 44, 45, 46, 47, 58, 61, 63] : List UInt8), b.toNat < 128 := by decide
/-- The marks of a printable text. -/
def MK : ByteArray := ⟨#[32, 39, 40, 41, 43, 44, 45, 46, 47, 58, 61, 63]⟩

theorem indexB_no : ∀ (l : List UInt8) (c : UInt8), (∀ b ∈ l, b ≠ c) → Lib.indexByte l c = -1
  | [], c, _ => rfl
  | b :: l, c, h => by
    have h1 : (b == c) = false := by simpa using h b (by simp)
    have h2 := indexB_no l c (fun x hx => h x (by simp [hx]))
    simp [Lib.indexByte, h1, h2]
theorem MK_lt (i : Nat) (hi : i < MK.size) : (MK[i]'hi).toNat < 128 :=
  marks_lt _ (Array.getElem_mem_toList (xs := MK.data) hi)
set_option maxHeartbeats 1600000 in
theorem stIndexRune (r : Int) (w : World) (h : r < 0 ∨ 128 ≤ r) : Calls Tryd.prog 72 #[.string MK, .int .i32 r] w fun e w' => e = .returned (.int .i64 (-1)) ∧ Below w.heap.size w w' := by
  go_enter Tryd.func72, Tryd.ntmps72
  by_cases hv : Lib.validRune r = true
  · have hb := valid_bound hv
    have h0 : 0 ≤ r := by omega
    have h1 : ¬ r < 128 := by omega
    by_cases hE : r = 65533
    · subst hE
      go_wp2
      go_loopg [4] 12 (fun g s4 wx => ∃ i : Nat, i + g = 12 ∧ wx = w.iter MK i)
      case atStart => exact ⟨0, by omega, rfl⟩
      case round =>
        obtain ⟨i, hig, rfl⟩ := hrel
        cases gk with
        | zero =>
          obtain rfl : i = 12 := by omega
          have hnx := fun ty => run_next_end (P := Tryd.prog) w MK 12 ty (by decide)
          go_wp2
          go_ret
          exact ⟨rfl, below_alloc1 _ _⟩
        | succ g =>
          have hi : i < MK.size := by show i < 12; omega
          have hm := MK_lt i hi
          have hnx := fun ty => run_next_ascii (P := Tryd.prog) w MK i ty hi hm
          generalize (MK[i]'hi).toNat = y at *
          have hy : ((y : Int) == 65533) = false := by simp; omega
          clear hm
          go_wp2
          go_roundg g
          case measure => omega
          case rel => exact ⟨i + 1, by omega, rfl⟩
    · have hE' : (r == 65533) = false := by simp [hE]
      have hV := Tryd.utf8_ValidRune r w
      rw [hv] at hV
      go_wp2_with fail
      refine hV.mono ?_
      rintro e w1 ⟨rfl, rfl⟩
      obtain ⟨s2, s4, sl⟩ := encode_facts r (by rw [validRune_eq]; exact hv) (by omega)
      have hcv : ∀ W : World, (convert 21 9 (.int .i32 r)).run Tryd.prog W = .ok (.string (Utf8.encode r)) W := fun W => run_convert_int_string W _ _ _ _ (by kernel_rfl) (by kernel_rfl)
      generalize Utf8.encode r = rs at *
      have hsz : rs.size = 2 ∨ rs.size = 3 ∨ rs.size = 4 := by omega
      have d12 : MK.size = 12 := rfl
      have hc := sl (by omega)
      go_wp2
      go_step3
      go_wp2
      rcases hsz with hsz | hsz | hsz
      · have hck : 128 ≤ (rs[1]'(by omega)).toNat := by
          have e : rs.size - 1 = 1 := by omega
          simpa only [e] using hc
        have hq : (((MK[1]'(by decide)).toNat : Int) != ((rs[1]'(by omega)).toNat : Int)) = true := by
          have := MK_lt 1 (by decide)
          rw [bne_iff_ne]; omega
        have hwr : IntKind.i64.wrap 2 = 2 := by decide
        have hsl : ∀ W : World, (Instr.slice 9 (.string MK) (some (.int .i64 2)) none none).run Tryd.prog W = .ok (.string (MK.extract 2 12)) W := fun W => by
          rw [run_slice_string_from_if W 9 MK .i64 2 (by kernel_rfl), if_pos (by decide)]; rfl
        have hI := Lib.hid (fun W => Tryd.strings_IndexByte (MK.extract 2 12) ((rs[1]'(by omega)).toNat : Int) W)
        rw [indexB_no _ _ (fun b hb e => by
          have h1 := marks_lt b (mem_extract hb)
          rw [e] at h1
          simp at h1
          omega)] at hI
        clear hc sl hE hv
        go_loop [9] (fun i => i = .int .i64 1) (fun _ => 0)
        case atStart => rw [hsz]; rfl
        case round =>
          subst hrel
          go_wp2
          go_step3
          go_wp2
          go_quiet (fail)
          go_wp2
          go_quiet ((go_at_call 81; exact (hI.out _).mono (fun e w2 h => ⟨h.1, _, h.2⟩)))
          go_wp2
          refine (?_ : bodyPost Tryd.prog Tryd.f72 (fun e w' => e = .returned (.int .i64 (-1)) ∧ Below w1.heap.size w1 w') Exit.ret _ _)
          go_ret
          exact ⟨rfl, below_drewN (Below.refl _ _) _⟩
      · have hck : 128 ≤ (rs[2]'(by omega)).toNat := by
          have e : rs.size - 1 = 2 := by omega
          simpa only [e] using hc
        have hq : (((MK[2]'(by decide)).toNat : Int) != ((rs[2]'(by omega)).toNat : Int)) = true := by
          have := MK_lt 2 (by decide)
          rw [bne_iff_ne]; omega
        have hwr : IntKind.i64.wrap 3 = 3 := by decide
        have hsl : ∀ W : World, (Instr.slice 9 (.string MK) (some (.int .i64 3)) none none).run Tryd.prog W = .ok (.string (MK.extract 3 12)) W := fun W => by
          rw [run_slice_string_from_if W 9 MK .i64 3 (by kernel_rfl), if_pos (by decide)]; rfl
        have hI := Lib.hid (fun W => Tryd.strings_IndexByte (MK.extract 3 12) ((rs[2]'(by omega)).toNat : Int) W)
        rw [indexB_no _ _ (fun b hb e => by
          have h1 := marks_lt b (mem_extract hb)
          rw [e] at h1
          simp at h1
          omega)] at hI
        clear hc sl hE hv
        go_loop [9] (fun i => i = .int .i64 2) (fun _ => 0)
        case atStart => rw [hsz]; rfl
        case round =>
          subst hrel
          go_wp2
          go_step3
          go_wp2
          go_quiet (fail)
          go_wp2
          go_quiet ((go_at_call 81; exact (hI.out _).mono (fun e w2 h => ⟨h.1, _, h.2⟩)))
          go_wp2
          refine (?_ : bodyPost Tryd.prog Tryd.f72 (fun e w' => e = .returned (.int .i64 (-1)) ∧ Below w1.heap.size w1 w') Exit.ret _ _)
          go_ret
          exact ⟨rfl, below_drewN (Below.refl _ _) _⟩
      · have hck : 128 ≤ (rs[3]'(by omega)).toNat := by
          have e : rs.size - 1 = 3 := by omega
          simpa only [e] using hc
        have hq : (((MK[3]'(by decide)).toNat : Int) != ((rs[3]'(by omega)).toNat : Int)) = true := by
          have := MK_lt 3 (by decide)
          rw [bne_iff_ne]; omega
        have hwr : IntKind.i64.wrap 4 = 4 := by decide
        have hsl : ∀ W : World, (Instr.slice 9 (.string MK) (some (.int .i64 4)) none none).run Tryd.prog W = .ok (.string (MK.extract 4 12)) W := fun W => by
          rw [run_slice_string_from_if W 9 MK .i64 4 (by kernel_rfl), if_pos (by decide)]; rfl
        have hI := Lib.hid (fun W => Tryd.strings_IndexByte (MK.extract 4 12) ((rs[3]'(by omega)).toNat : Int) W)
        rw [indexB_no _ _ (fun b hb e => by
          have h1 := marks_lt b (mem_extract hb)
          rw [e] at h1
          simp at h1
          omega)] at hI
        clear hc sl hE hv
        go_loop [9] (fun i => i = .int .i64 3) (fun _ => 0)
        case atStart => rw [hsz]; rfl
        case round =>
          subst hrel
          go_wp2
          go_step3
          go_wp2
          go_quiet (fail)
          go_wp2
          go_quiet ((go_at_call 81; exact (hI.out _).mono (fun e w2 h => ⟨h.1, _, h.2⟩)))
          go_wp2
          refine (?_ : bodyPost Tryd.prog Tryd.f72 (fun e w' => e = .returned (.int .i64 (-1)) ∧ Below w1.heap.size w1 w') Exit.ret _ _)
          go_ret
          exact ⟨rfl, below_drewN (Below.refl _ _) _⟩
  · have hV := Tryd.utf8_ValidRune r w
    rw [Bool.not_eq_true] at hv
    rw [hv] at hV
    have hE' : (r == 65533) = false := by
      rw [beq_eq_false_iff_ne]; rintro rfl; revert hv; decide
    by_cases h0 : 0 ≤ r
    · have h1 : ¬ r < 128 := by omega
      go_wp2_with fail
      refine hV.mono ?_
      rintro e w1 ⟨rfl, rfl⟩
      go_wp2
      go_ret
      exact ⟨rfl, Below.refl _ _⟩
    · go_wp2_with fail
      refine hV.mono ?_
      rintro e w1 ⟨rfl, rfl⟩
      go_wp2
      go_ret
      exact ⟨rfl, Below.refl _ _⟩

theorem idx_nonneg : ∀ (l : List UInt8) (c : UInt8), decide (0 ≤ Lib.indexByte l c) = l.contains c
  | [], c => by simp [Lib.indexByte]
  | b :: l, c => by
    have ih := idx_nonneg l c
    have h1 : -1 ≤ Lib.indexByte l c := idx_ge l c
    rw [List.contains_cons]
    by_cases e : b = c
    · subst e
      simp [Lib.indexByte]
    · have e1 : (b == c) = false := by simpa using e
      have e2 : (c == b) = false := by simpa using fun h => e h.symm
      rw [e2, Bool.false_or, ← ih]
      by_cases h2 : Lib.indexByte l c = -1
      · simp [Lib.indexByte, e1, h2]
      · have h3 : (Lib.indexByte l c == -1) = false := by simpa using h2
        simp only [Lib.indexByte, e1, h3]
        rw [Bool.eq_iff_iff]; simp; omega
where idx_ge : ∀ (l : List UInt8) (c : UInt8), -1 ≤ Lib.indexByte l c
  | [], c => by simp [Lib.indexByte]
  | b :: l, c => by
    have := idx_ge l c
    unfold Lib.indexByte
    split
    · omega
    · split <;> omega
theorem mark_contains : ∀ n : Nat, n < 128 → ([32, 39, 40, 41, 43, 44, 45, 46, 47, 58, 61, 63] : List UInt8).contains n.toUInt8 = markT (n : Int) := by decide +kernel

theorem stContainsRune (r : Int) (w : World) : Calls Tryd.prog 59 #[.string MK, .int .i32 r] w fun e w' => e = .returned (.bool (markT r)) ∧ Below w.heap.size w w' := by
  by_cases h : r < 0 ∨ 128 ≤ r
  · have hm : markT r = false := by unfold markT; exact decide_eq_false (by omega)
    rw [hm]
    go_enter Tryd.func59, Tryd.ntmps59
    go_wp2_with fail
    refine (stIndexRune r w h).mono ?_
    rintro e w1 ⟨rfl, hb⟩
    go_wp2
    go_ret
    exact ⟨rfl, hb⟩
  · have hc := Tryd.strings_ContainsRune_ascii MK r w (by omega) (by omega)
    rw [idx_nonneg] at hc
    have hm := mark_contains r.toNat (by omega)
    rw [show ((r.toNat : Nat) : Int) = r by omega] at hm
    refine hc.mono ?_
    rintro e w1 ⟨rfl, rfl⟩
    exact ⟨by rw [← hm]; rfl, Below.refl _ _⟩

set_option maxHeartbeats 1600000 in
theorem txHas (k r : Int) (w : World) : Calls Tryd.prog 40 #[.int .i64 k, .int .i32 r] w fun e w' => e = .returned (.bool (hasT k r)) ∧ Below w.heap.size w w' := by
  have hV := Lib.hid (fun W => Tryd.utf8_ValidRune r W)
  have hP := Lib.hid (fun W => txPlain r W)
  have hM := Lib.hid (fun W => stContainsRune r W)
  have hMK : ({ data := #[32, 39, 40, 41, 43, 44, 45, 46, 47, 58, 61, 63] } : ByteArray) = MK := rfl
  by_cases h12 : k = 12
  · subst h12
    have e : hasT 12 r = Lib.validRune r := by simp [hasT]
    rw [e]
    go_enter Tryd.func40, Tryd.ntmps40
    go_wp2_with fail
    refine (hV.out _).mono ?_
    rintro e w1 ⟨rfl, rfl⟩
    go_wp2
    go_ret
    exact ⟨rfl, Below.refl _ _⟩
  · have b12 : (k == 12) = false := by simpa using h12
    by_cases h19 : k = 19
    · subst h19
      have e : hasT 19 r = (plainT r || markT r) := by simp [hasT]
      rw [e]
      generalize plainT r = p at *
      generalize markT r = m at *
      go_enter Tryd.func40, Tryd.ntmps40
      go_wp2_with fail
      refine (hP.out _).mono ?_
      rintro e w1 ⟨rfl, rfl⟩
      cases p
      · go_wp2_with fail
        refine (hM.out _).mono ?_
        rintro e w2 ⟨rfl, hb⟩
        go_wp2
        go_ret
        exact ⟨rfl, hb⟩
      · go_wp2
        go_ret
        exact ⟨rfl, Below.refl _ _⟩
    · have b19 : (k == 19) = false := by simpa using h19
      by_cases h20 : k = 20
      · subst h20
        have e : hasT 20 r = decide (0 ≤ r ∧ r ≤ 255) := by simp [hasT]
        rw [e]
        go_enter Tryd.func40, Tryd.ntmps40
        by_cases h0 : 0 ≤ r
        · by_cases h1 : r ≤ 255
          · rw [decide_eq_true (by omega)]; go_wp2; go_ret; exact ⟨rfl, Below.refl _ _⟩
          · rw [decide_eq_false (by omega)]; go_wp2; go_ret; exact ⟨rfl, Below.refl _ _⟩
        · rw [decide_eq_false (by omega)]; go_wp2; go_ret; exact ⟨rfl, Below.refl _ _⟩
      · have b20 : (k == 20) = false := by simpa using h20
        by_cases h22 : k = 22
        · subst h22
          have e : hasT 22 r = decide (0 ≤ r ∧ r ≤ 127) := by simp [hasT]
          rw [e]
          go_enter Tryd.func40, Tryd.ntmps40
          by_cases h0 : 0 ≤ r
          · by_cases h1 : r ≤ 127
            · rw [decide_eq_true (by omega)]; go_wp2; go_ret; exact ⟨rfl, Below.refl _ _⟩
            · rw [decide_eq_false (by omega)]; go_wp2; go_ret; exact ⟨rfl, Below.refl _ _⟩
          · rw [decide_eq_false (by omega)]; go_wp2; go_ret; exact ⟨rfl, Below.refl _ _⟩
        · have b22 : (k == 22) = false := by simpa using h22
          by_cases h26 : k = 26
          · subst h26
            have e : hasT 26 r = decide (32 ≤ r ∧ r ≤ 126) := by simp [hasT]
            rw [e]
            go_enter Tryd.func40, Tryd.ntmps40
            by_cases h0 : 32 ≤ r
            · by_cases h1 : r ≤ 126
              · rw [decide_eq_true (by omega)]; go_wp2; go_ret; exact ⟨rfl, Below.refl _ _⟩
              · rw [decide_eq_false (by omega)]; go_wp2; go_ret; exact ⟨rfl, Below.refl _ _⟩
            · rw [decide_eq_false (by omega)]; go_wp2; go_ret; exact ⟨rfl, Below.refl _ _⟩
          · have b26 : (k == 26) = false := by simpa using h26
            by_cases h30 : k = 30
            · subst h30
              have e : hasT 30 r = (Lib.validRune r && decide (r ≤ 65535)) := by simp [hasT]
              rw [e]
              generalize Lib.validRune r = v at *
              go_enter Tryd.func40, Tryd.ntmps40
              go_wp2_with fail
              refine (hV.out _).mono ?_
              rintro e w1 ⟨rfl, rfl⟩
              cases v
              · go_wp2; go_ret; exact ⟨rfl, Below.refl _ _⟩
              · by_cases h1 : r ≤ 65535
                · go_wp2; go_ret; exact ⟨by rw [decide_eq_true h1]; rfl, Below.refl _ _⟩
                · go_wp2; go_ret; exact ⟨by rw [decide_eq_false (by omega)]; rfl, Below.refl _ _⟩
            · have b30 : (k == 30) = false := by simpa using h30
              have e : hasT k r = false := by simp [hasT, h12, h19, h20, h22, h26, h30]
              rw [e]
              clear h12 h19 h20 h22 h26 h30
              go_enter Tryd.func40, Tryd.ntmps40
              go_wp2; go_ret; exact ⟨rfl, Below.refl _ _⟩
end Go.Proofs.YtoklonnajpjgjaaDoor
