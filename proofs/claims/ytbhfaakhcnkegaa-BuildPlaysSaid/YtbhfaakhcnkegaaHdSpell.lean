/-
  The contracts of the project's head: the digits of a number, by a closure that calls itself.
-/
import Derived.Test.YtbhfaakhcnkegaaHdTagC
import Derived.Test.YtbhfaakhcnkegaaWr
import Derived.Deep.RegionLaw
namespace Go.Proofs.Ytbhfaakhcnkegaa
open Go.RowKit
set_option linter.unusedVariables false
set_option linter.unusedSimpArgs false
set_option maxRecDepth 4000

/-- A variable of one cell, at block g. -/
def Blk1 (w : World) (g : Nat) (v : Value) (t : TypeId) : Prop := w.heap[g]? = some (.cells #[v] t (0, 0))
theorem Blk1.grown {w w' : World} {g : Nat} {v : Value} {t : TypeId} {row : Option Nat} (h : Blk1 w g v t) (hg : w.grownBy w' row) (hne : some g ≠ row) : Blk1 w' g v t := (hg.block g (lt_of_block h) hne).trans h
theorem Blk1.alloc {w : World} {g : Nat} {v : Value} {t : TypeId} (h : Blk1 w g v t) (o : Obj) : Blk1 (w.alloc o) g v t := ((below_alloc1 w o).block g (lt_of_block h)).trans h
theorem Blk1.setOther {w : World} {g : Nat} {v : Value} {t : TypeId} (h : Blk1 w g v t) {p : Addr} (hne : g ≠ p.block) (u : Value) : Blk1 (w.setCell p u) g v t := (Below.heap_setCell w p u g hne).trans h
theorem Blk1.ne {w : World} {g g' : Nat} {v v' : Value} {t t' : TypeId} (h : Blk1 w g v t) (h' : Blk1 w g' v' t') (hne : t ≠ t') : g ≠ g' := by
  rintro rfl
  unfold Blk1 at *
  rw [h] at h'
  simp at h'
  exact hne h'.2
theorem Blk1.notRow {w : World} {g B : Nat} {v x : Value} {t e : TypeId} {l : List UInt8} (h : Blk1 w g x t) (ho : Ob w B e v l) (hne : t ≠ e) : some g ≠ v.ownBlock := by
  intro hg
  rcases ho.2 with ⟨rfl, _⟩ | ⟨g', cap, cur, rfl, _, hh, _⟩
  · simp [Value.ownBlock] at hg
  · simp [Value.ownBlock] at hg
    subst hg
    unfold Blk1 at h
    rw [h] at hh
    simp at hh
    exact hne hh.2

theorem wrap_u8 (z : Int) (h0 : 0 ≤ z) (h1 : z < 256) : IntKind.u8.wrap z = z := by
  simp [IntKind.wrap, IntKind.bits, IntKind.signed] <;> omega

/-- The digits of n in base b, as many as f + 1. -/
def digL (b : Int) : Nat → Int → List UInt8
  | 0, n => [u8 (n % b)]
  | f + 1, n => (if b ≤ n then digL b f (n / b) else []) ++ [u8 (n % b)]
theorem digL_len (b : Int) : ∀ (f : Nat) (n : Int), (digL b f n).length ≤ f + 1
  | 0, n => by simp [digL]
  | f + 1, n => by
    have := digL_len b f (n / b)
    unfold digL
    split <;> simp <;> omega

abbrev spellV (gb gc go : Nat) : Value := .func (.func 110) #[] #[.pointer (some ⟨gb, 0, none⟩), .pointer (some ⟨gc, 0, none⟩), .pointer (some ⟨go, 0, none⟩)]
/-- The three variables that the closure knows. -/
def Sp (w : World) (B : Nat) (b : Int) (gb gc go : Nat) (v : Value) (l : List UInt8) : Prop :=
  B ≤ w.heap.size ∧ B ≤ gb ∧ B ≤ gc ∧ B ≤ go ∧ Blk1 w gb (.int .i64 b) 3 ∧ Blk1 w gc (spellV gb gc go) 155 ∧ Blk1 w go v 41 ∧ Ob w B 5 v l

theorem Sp.put {w w1 w2 : World} {B : Nat} {b : Int} {gb gc go : Nat} {v v' : Value} {l l' : List UInt8} {o : Obj} (h : Sp w B b gb gc go v l) (ho : Ob w2 B 5 v' l') (h1 : w1 = (w.alloc o).drew) (hg : w1.grownBy w2 v.ownBlock) :
    Sp (w2.setCell ⟨go, 0, none⟩ v') B b gb gc go v' l' ∧ Below B w (w2.setCell ⟨go, 0, none⟩ v') ∧ w2.cell? ⟨go, 0, none⟩ = some v ∧ w2.frozen? ⟨go, 0, none⟩ = false := by
  subst h1
  obtain ⟨hB, hb, hc, hgo, kb, kc, ko, hob⟩ := h
  have hb' : Below B w ((w.alloc o).drew) := (below_alloc1 w o).mono hB |>.drew
  have kb2 : Blk1 w2 gb (.int .i64 b) 3 := Blk1.grown (w := (w.alloc o).drew) (kb.alloc o) hg (kb.notRow hob (by decide))
  have kc2 : Blk1 w2 gc (spellV gb gc go) 155 := Blk1.grown (w := (w.alloc o).drew) (kc.alloc o) hg (kc.notRow hob (by decide))
  have ko2 : Blk1 w2 go v 41 := Blk1.grown (w := (w.alloc o).drew) (ko.alloc o) hg (ko.notRow hob (by decide))
  have hb2 : Below B w w2 := ((hob.alloc o).drew).grew hb' hB hg
  have n1 := kb2.ne ko2 (by decide)
  have n2 := kc2.ne ko2 (by decide)
  refine ⟨⟨Nat.le_trans hB (by simpa [World.setCell] using hb2.size), hb, hc, hgo, kb2.setOther n1 _, kc2.setOther n2 _, one_setCell ko2, ?_⟩, ?_, cell_of_one ko2, free_of_one ko2⟩
  · exact ownsRow_setCell_other ho (fun e => ko2.notRow ho (by decide) e.symm) _
  · exact Only.below ((Only.refl go w2).setCell rfl _) hb2 hgo (Nat.le_trans hB hb2.size)

set_option maxHeartbeats 1600000 in
theorem hdSpell128 : ∀ (f : Nat) (n : Int) (B gb gc go : Nat) (v : Value) (pre : List UInt8) (w : World), 0 ≤ n → n < 128 ^ (f + 1) → n ≤ 1099511627776 → pre.length + f ≤ 1000 → Sp w B 128 gb gc go v pre →
    Calls Try.prog 110 #[.int .i64 n, .pointer (some ⟨gb, 0, none⟩), .pointer (some ⟨gc, 0, none⟩), .pointer (some ⟨go, 0, none⟩)] w fun e w' =>
      e = .returned (.tuple #[]) ∧ (∃ v', Sp w' B 128 gb gc go v' (pre ++ digL 128 f n)) ∧ Below B w w' := by
  obtain ⟨i0, hi, hz0, hz1, hz2⟩ := info_parts u8_info
  intro f
  induction f with
  | zero =>
    intro n B gb gc go v pre w h0 h1 h2 hl hS
    have hlt : n < 128 := by simpa using h1
    clear h1
    have htm : n.tmod 128 = n % 128 := Int.tmod_eq_emod_of_nonneg h0
    have hwr : IntKind.u8.wrap (n % 128) = n % 128 := wrap_u8 _ (by omega) (by omega)
    have hob := hS.2.2.2.2.2.2.2
    have hB := hS.1
    obtain ⟨A, c, rfl, hc, hbs⟩ := hob.slice
    have cb := cell_of_one hS.2.2.2.2.1
    have co := cell_of_one hS.2.2.2.2.2.2.1
    have co2 := cell_of_one (Blk1.alloc hS.2.2.2.2.2.2.1 (Obj.cells #[Value.int IntKind.u8 (n % 128)] 5))
    go_enter Try.func110, Try.ntmps110
    go_wp2
    go_region_law ((refine step_appendB (by rfl) _ _ 41 (by rfl) B 5 i0 _ Try.underlying41 hi hz0 hz1 hz2 rfl _ pre (by rfl) ((hob.alloc _).drew) _ _ _ [u8 (n % 128)] (by rfl) ((Bs.new1 w _ _ 5 (u8_val _ (by omega) (by omega))).drew) (by simp; omega) (by simp; omega) ?_; intro v' w9 hob9 hg9 _ _; obtain ⟨A9, c9, rfl, _, _⟩ := hob9.slice; have ⟨hS9, hBl9, hcc9, hff9⟩ := Sp.put hS hob9 rfl hg9))
    all_goals
      go_wp2
      go_end0
      simp only [List.length_append, List.length_cons, List.length_nil, Nat.zero_add] at hS9 hBl9
      exact ⟨rfl, ⟨_, hS9⟩, hBl9⟩
  | succ f ih =>
    intro n B gb gc go v pre w h0 h1 h2 hl hS
    have htm : n.tmod 128 = n % 128 := Int.tmod_eq_emod_of_nonneg h0
    have hwr : IntKind.u8.wrap (n % 128) = n % 128 := wrap_u8 _ (by omega) (by omega)
    have hob := hS.2.2.2.2.2.2.2
    have hB := hS.1
    obtain ⟨A, c, rfl, hc, hbs⟩ := hob.slice
    have cb := cell_of_one hS.2.2.2.2.1
    have co := cell_of_one hS.2.2.2.2.2.2.1
    have cc := cell_of_one hS.2.2.2.2.2.1
    by_cases hge : 128 ≤ n
    · have hd : n / 128 < 128 ^ (f + 1) := Int.ediv_lt_of_lt_mul (by omega) (by rw [Int.pow_succ] at h1; exact h1)
      have HD := Lib.hid hd
      have H1 := Lib.hid h1
      clear h1 hd
      go_enter Try.func110, Try.ntmps110
      go_wp2
      go_still_tail 4, (by kernel_rfl)
      go_wp2_with fail
      refine (ih (n / 128) B gb gc go _ pre w.drew (by omega) HD.out (by omega) (by omega) hS).mono ?_
      rintro e w1 ⟨rfl, ⟨v1, hS1⟩, hB1⟩
      have hBw : Below B w w1 := (Below.refl B w).drew.trans hB1
      have hpre : (pre ++ digL 128 f (n / 128)).length + 0 ≤ 1001 := by have := digL_len 128 f (n / 128); simp; omega
      have hF : Hid (pre ++ digL 128 (f + 1) n = (pre ++ digL 128 f (n / 128)) ++ [u8 (n % 128)]) := by unfold Hid; rw [show digL 128 (f + 1) n = (if 128 ≤ n then digL 128 f (n / 128) else []) ++ [u8 (n % 128)] from rfl, if_pos hge, List.append_assoc]
      clear hS hob hB hbs cb co cc hB1
      generalize pre ++ digL 128 f (n / 128) = pre1 at *
      have hS := hS1
      have hob := hS.2.2.2.2.2.2.2
      have hB := hS.1
      obtain ⟨A1, c1, rfl, hc1, hbs1⟩ := hob.slice
      have cb := cell_of_one hS.2.2.2.2.1
      have co := cell_of_one hS.2.2.2.2.2.2.1
      have co2 := cell_of_one (Blk1.alloc hS.2.2.2.2.2.2.1 (Obj.cells #[Value.int IntKind.u8 (n % 128)] 5))
      go_wp2
      go_region_law ((refine step_appendB (by rfl) _ _ 41 (by rfl) B 5 i0 _ Try.underlying41 hi hz0 hz1 hz2 rfl _ pre1 (by rfl) ((hob.alloc _).drew) _ _ _ [u8 (n % 128)] (by rfl) ((Bs.new1 w1 _ _ 5 (u8_val _ (by omega) (by omega))).drew) (by simp; omega) (by simp; omega) ?_; intro v' w9 hob9 hg9 _ _; obtain ⟨A9, c9, rfl, _, _⟩ := hob9.slice; have ⟨hS9, hBl9, hcc9, hff9⟩ := Sp.put hS hob9 rfl hg9))
      all_goals
        go_wp2
        go_end0
        simp only [List.length_append, List.length_cons, List.length_nil, Nat.zero_add] at hS9 hBl9
        exact ⟨rfl, ⟨_, by rw [hF.out]; exact hS9⟩, hBw.trans hBl9⟩
    · have hF : Hid (pre ++ digL 128 (f + 1) n = pre ++ [u8 (n % 128)]) := by unfold Hid digL; rw [if_neg hge, List.nil_append]
      clear h1 cc
      have co2 := cell_of_one (Blk1.alloc hS.2.2.2.2.2.2.1 (Obj.cells #[Value.int IntKind.u8 (n % 128)] 5))
      go_enter Try.func110, Try.ntmps110
      go_wp2
      go_region_law ((refine step_appendB (by rfl) _ _ 41 (by rfl) B 5 i0 _ Try.underlying41 hi hz0 hz1 hz2 rfl _ pre (by rfl) ((hob.alloc _).drew) _ _ _ [u8 (n % 128)] (by rfl) ((Bs.new1 w _ _ 5 (u8_val _ (by omega) (by omega))).drew) (by simp; omega) (by simp; omega) ?_; intro v' w9 hob9 hg9 _ _; obtain ⟨A9, c9, rfl, _, _⟩ := hob9.slice; have ⟨hS9, hBl9, hcc9, hff9⟩ := Sp.put hS hob9 rfl hg9))
      all_goals
        go_wp2
        go_end0
        simp only [List.length_append, List.length_cons, List.length_nil, Nat.zero_add] at hS9 hBl9
        exact ⟨rfl, ⟨_, by rw [hF.out]; exact hS9⟩, hBl9⟩

set_option maxHeartbeats 1600000 in
theorem hdSpell256 : ∀ (f : Nat) (n : Int) (B gb gc go : Nat) (v : Value) (pre : List UInt8) (w : World), 0 ≤ n → n < 256 ^ (f + 1) → n ≤ 1099511627776 → pre.length + f ≤ 1000 → Sp w B 256 gb gc go v pre →
    Calls Try.prog 110 #[.int .i64 n, .pointer (some ⟨gb, 0, none⟩), .pointer (some ⟨gc, 0, none⟩), .pointer (some ⟨go, 0, none⟩)] w fun e w' =>
      e = .returned (.tuple #[]) ∧ (∃ v', Sp w' B 256 gb gc go v' (pre ++ digL 256 f n)) ∧ Below B w w' := by
  obtain ⟨i0, hi, hz0, hz1, hz2⟩ := info_parts u8_info
  intro f
  induction f with
  | zero =>
    intro n B gb gc go v pre w h0 h1 h2 hl hS
    have hlt : n < 256 := by simpa using h1
    clear h1
    have htm : n.tmod 256 = n % 256 := Int.tmod_eq_emod_of_nonneg h0
    have hwr : IntKind.u8.wrap (n % 256) = n % 256 := wrap_u8 _ (by omega) (by omega)
    have hob := hS.2.2.2.2.2.2.2
    have hB := hS.1
    obtain ⟨A, c, rfl, hc, hbs⟩ := hob.slice
    have cb := cell_of_one hS.2.2.2.2.1
    have co := cell_of_one hS.2.2.2.2.2.2.1
    have co2 := cell_of_one (Blk1.alloc hS.2.2.2.2.2.2.1 (Obj.cells #[Value.int IntKind.u8 (n % 256)] 5))
    go_enter Try.func110, Try.ntmps110
    go_wp2
    go_region_law ((refine step_appendB (by rfl) _ _ 41 (by rfl) B 5 i0 _ Try.underlying41 hi hz0 hz1 hz2 rfl _ pre (by rfl) ((hob.alloc _).drew) _ _ _ [u8 (n % 256)] (by rfl) ((Bs.new1 w _ _ 5 (u8_val _ (by omega) (by omega))).drew) (by simp; omega) (by simp; omega) ?_; intro v' w9 hob9 hg9 _ _; obtain ⟨A9, c9, rfl, _, _⟩ := hob9.slice; have ⟨hS9, hBl9, hcc9, hff9⟩ := Sp.put hS hob9 rfl hg9))
    all_goals
      go_wp2
      go_end0
      simp only [List.length_append, List.length_cons, List.length_nil, Nat.zero_add] at hS9 hBl9
      exact ⟨rfl, ⟨_, hS9⟩, hBl9⟩
  | succ f ih =>
    intro n B gb gc go v pre w h0 h1 h2 hl hS
    have htm : n.tmod 256 = n % 256 := Int.tmod_eq_emod_of_nonneg h0
    have hwr : IntKind.u8.wrap (n % 256) = n % 256 := wrap_u8 _ (by omega) (by omega)
    have hob := hS.2.2.2.2.2.2.2
    have hB := hS.1
    obtain ⟨A, c, rfl, hc, hbs⟩ := hob.slice
    have cb := cell_of_one hS.2.2.2.2.1
    have co := cell_of_one hS.2.2.2.2.2.2.1
    have cc := cell_of_one hS.2.2.2.2.2.1
    by_cases hge : 256 ≤ n
    · have hd : n / 256 < 256 ^ (f + 1) := Int.ediv_lt_of_lt_mul (by omega) (by rw [Int.pow_succ] at h1; exact h1)
      have HD := Lib.hid hd
      have H1 := Lib.hid h1
      clear h1 hd
      go_enter Try.func110, Try.ntmps110
      go_wp2
      go_still_tail 4, (by kernel_rfl)
      go_wp2_with fail
      refine (ih (n / 256) B gb gc go _ pre w.drew (by omega) HD.out (by omega) (by omega) hS).mono ?_
      rintro e w1 ⟨rfl, ⟨v1, hS1⟩, hB1⟩
      have hBw : Below B w w1 := (Below.refl B w).drew.trans hB1
      have hpre : (pre ++ digL 256 f (n / 256)).length + 0 ≤ 1001 := by have := digL_len 256 f (n / 256); simp; omega
      have hF : Hid (pre ++ digL 256 (f + 1) n = (pre ++ digL 256 f (n / 256)) ++ [u8 (n % 256)]) := by unfold Hid; rw [show digL 256 (f + 1) n = (if 256 ≤ n then digL 256 f (n / 256) else []) ++ [u8 (n % 256)] from rfl, if_pos hge, List.append_assoc]
      clear hS hob hB hbs cb co cc hB1
      generalize pre ++ digL 256 f (n / 256) = pre1 at *
      have hS := hS1
      have hob := hS.2.2.2.2.2.2.2
      have hB := hS.1
      obtain ⟨A1, c1, rfl, hc1, hbs1⟩ := hob.slice
      have cb := cell_of_one hS.2.2.2.2.1
      have co := cell_of_one hS.2.2.2.2.2.2.1
      have co2 := cell_of_one (Blk1.alloc hS.2.2.2.2.2.2.1 (Obj.cells #[Value.int IntKind.u8 (n % 256)] 5))
      go_wp2
      go_region_law ((refine step_appendB (by rfl) _ _ 41 (by rfl) B 5 i0 _ Try.underlying41 hi hz0 hz1 hz2 rfl _ pre1 (by rfl) ((hob.alloc _).drew) _ _ _ [u8 (n % 256)] (by rfl) ((Bs.new1 w1 _ _ 5 (u8_val _ (by omega) (by omega))).drew) (by simp; omega) (by simp; omega) ?_; intro v' w9 hob9 hg9 _ _; obtain ⟨A9, c9, rfl, _, _⟩ := hob9.slice; have ⟨hS9, hBl9, hcc9, hff9⟩ := Sp.put hS hob9 rfl hg9))
      all_goals
        go_wp2
        go_end0
        simp only [List.length_append, List.length_cons, List.length_nil, Nat.zero_add] at hS9 hBl9
        exact ⟨rfl, ⟨_, by rw [hF.out]; exact hS9⟩, hBw.trans hBl9⟩
    · have hF : Hid (pre ++ digL 256 (f + 1) n = pre ++ [u8 (n % 256)]) := by unfold Hid digL; rw [if_neg hge, List.nil_append]
      clear h1 cc
      have co2 := cell_of_one (Blk1.alloc hS.2.2.2.2.2.2.1 (Obj.cells #[Value.int IntKind.u8 (n % 256)] 5))
      go_enter Try.func110, Try.ntmps110
      go_wp2
      go_region_law ((refine step_appendB (by rfl) _ _ 41 (by rfl) B 5 i0 _ Try.underlying41 hi hz0 hz1 hz2 rfl _ pre (by rfl) ((hob.alloc _).drew) _ _ _ [u8 (n % 256)] (by rfl) ((Bs.new1 w _ _ 5 (u8_val _ (by omega) (by omega))).drew) (by simp; omega) (by simp; omega) ?_; intro v' w9 hob9 hg9 _ _; obtain ⟨A9, c9, rfl, _, _⟩ := hob9.slice; have ⟨hS9, hBl9, hcc9, hff9⟩ := Sp.put hS hob9 rfl hg9))
      all_goals
        go_wp2
        go_end0
        simp only [List.length_append, List.length_cons, List.length_nil, Nat.zero_add] at hS9 hBl9
        exact ⟨rfl, ⟨_, by rw [hF.out]; exact hS9⟩, hBl9⟩

end Go.Proofs.Ytbhfaakhcnkegaa
