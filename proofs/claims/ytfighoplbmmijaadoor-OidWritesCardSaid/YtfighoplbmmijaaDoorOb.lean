/-
  The contracts of the project's oid: the number at a beginning, the first two numbers, the closure that writes digits.
-/
import Derived.Test.YtfighoplbmmijaaDoorOa
namespace Go.Proofs.YtfighoplbmmijaaDoor
open Go.RowKit Go.Joins
set_option linter.unusedVariables false
set_option linter.unusedSimpArgs false
set_option maxRecDepth 4000

theorem numR_step {l : List UInt8} {k : Nat} (m : Int) (h : k < l.length) : numR (l.drop k) k m =
    if k = 0 ∧ nth l k = 128 then (0, 0, 6) else if 2147483647 < m * 128 + nth l k % 128 then (0, 0, 2) else if nth l k < 128 then (m * 128 + nth l k % 128, k + 1, 0) else numR (l.drop (k + 1)) (k + 1) (m * 128 + nth l k % 128) := by
  have e : l.drop k = l.getD k 0 :: l.drop (k + 1) := by rw [List.drop_eq_getElem_cons h]; simp [List.getD, List.getElem?_eq_getElem h]
  rw [e, numR]
  unfold nth
  have e1 : ((l.getD k 0).toNat = 128) = (((l.getD k 0).toNat : Int) = 128) := by apply propext; omega
  have e2 : ((l.getD k 0).toNat < 128) = (((l.getD k 0).toNat : Int) < 128) := by apply propext; omega
  simp only [e1, e2]

/-- The three results of number. -/
def numV (r : Int × Nat × Int) : Value := .tuple #[.int .i64 r.1, .int .i64 (r.2.1 : Int), .int .i64 r.2.2]

set_option maxHeartbeats 1600000 in
theorem oidNumber (A : Option Addr) (n c : Nat) (l : List UInt8) (w : World) (h : Bs w A n l) (hn : n ≤ 1099511627776) :
    Calls Tryd.prog 41 #[.slice A n c] w fun e w' => e = .returned (numV (numR l 0 0)) ∧ w = w' := by
  have hl := Lib.hid h.len
  go_enter Tryd.func41, Tryd.ntmps41
  go_wp2
  go_loop [2, 9] (fun a i => ∃ (k : Nat) (m : Int), k ≤ n ∧ i = .int .i64 (k : Int) ∧ a = .int .i64 m ∧ 0 ≤ m ∧ m ≤ 2147483647 ∧ Hid (numR l 0 0 = numR (l.drop k) k m)) (fun _ i => n - (intOf i).toNat)
  case atStart => exact ⟨0, 0, by omega, rfl, rfl, by omega, by omega, by simp [Hid]⟩
  case round =>
    obtain ⟨k, m, hk, rfl, rfl, m0, m1, hv⟩ := hrel
    by_cases hlt : k < n
    · obtain ⟨b, o, rfl, hcell⟩ := h.at_ hlt
      have e1 : (k : Int) < n := by omega
      have hst := Lib.hid (numR_step m (l := l) (k := k) (by rw [hl.out]; exact hlt))
      have hb := nth_bound l k
      generalize nth l k = x at *
      by_cases c1 : k = 0 ∧ x = 128
      · have hF : Hid (numR l 0 0 = (0, 0, 6)) := by unfold Hid; rw [hv.out, hst.out, if_pos c1]
        obtain ⟨rfl, rfl⟩ := c1
        rw [Nat.add_zero] at hcell
        clear hst hv
        go_wp2
        go_ret3
        rw [hF.out]
        exact ⟨rfl, rfl⟩
      · by_cases c2 : 2147483647 < m * 128 + x % 128
        · have hF : Hid (numR l 0 0 = (0, 0, 2)) := by unfold Hid; rw [hv.out, hst.out, if_neg c1, if_pos c2]
          clear hst hv
          by_cases c0 : k = 0
          · subst c0
            rw [Nat.add_zero] at hcell
            have cx : (x == 128) = false := by simp; omega
            go_wp2
            go_ret3
            rw [hF.out]
            exact ⟨rfl, rfl⟩
          · have ck : ((k : Int) == 0) = false := by simp; omega
            go_wp2
            go_ret3
            rw [hF.out]
            exact ⟨rfl, rfl⟩
        · by_cases c3 : x < 128
          · have hF : Hid (numR l 0 0 = (m * 128 + x % 128, k + 1, 0)) := by unfold Hid; rw [hv.out, hst.out, if_neg c1, if_neg c2, if_pos c3]
            clear hst hv
            by_cases c0 : k = 0
            · subst c0
              rw [Nat.add_zero] at hcell
              have cx : (x == 128) = false := by simp; omega
              go_wp2
              go_ret3
              rw [hF.out]
              exact ⟨by unfold numV; go_num, rfl⟩
            · have ck : ((k : Int) == 0) = false := by simp; omega
              go_wp2
              go_ret3
              rw [hF.out]
              exact ⟨by unfold numV; go_num, rfl⟩
          · have hF : Hid (numR l 0 0 = numR (l.drop (k + 1)) (k + 1) (m * 128 + x % 128)) := by unfold Hid; rw [hv.out, hst.out, if_neg c1, if_neg c2, if_neg c3]
            clear hst hv
            by_cases c0 : k = 0
            · subst c0
              rw [Nat.add_zero] at hcell
              have cx : (x == 128) = false := by simp; omega
              go_wp2
              go_round
              case rel => exact ⟨1, m * 128 + x % 128, by omega, by go_num, by go_num, by omega, by omega, hF⟩
              case measure => simp [intOf]; omega
            · have ck : ((k : Int) == 0) = false := by simp; omega
              go_wp2
              go_round
              case rel => exact ⟨k + 1, m * 128 + x % 128, by omega, by go_num, by go_num, by omega, by omega, hF⟩
              case measure => simp [intOf]; omega
    · have hF : Hid (numR l 0 0 = (0, 0, 6)) := by
        unfold Hid; rw [hv.out, List.drop_eq_nil_of_le (by have := hl.out; omega), numR]
      go_wp2
      go_ret3
      rw [hF.out]
      exact ⟨rfl, rfl⟩

theorem oidSplit (n : Int) (w : World) (h0 : 0 ≤ n) (h1 : n ≤ 2147483647) :
    Calls Tryd.prog 42 #[.int .i64 n] w fun e w' => ∃ v, e = .returned v ∧ Ov w' w.heap.size 3 v ((splitO n).map intV) ∧ Below w.heap.size w w' := by
  by_cases h : 2 < n / 40
  · have e : Hid (splitO n = [2, n - 2 * 40]) := by unfold Hid splitO; rw [show min (n / 40) 2 = 2 by omega]
    have ho := Lib.hid (Ov.lit w w.heap.size 3 [.int .i64 2, .int .i64 (n - 2 * 40)] #[.int .i64 2, .int .i64 (n - 2 * 40)] (Nat.le_refl _) rfl (by simp))
    go_enter Tryd.func42, Tryd.ntmps42
    go_wp2
    go_ret
    rw [e.out]
    exact ⟨_, rfl, ho.out, below_alloc1 _ _⟩
  · have e : Hid (splitO n = [n / 40, n - n / 40 * 40]) := by unfold Hid splitO; rw [show min (n / 40) 2 = n / 40 by omega]
    have ho := Lib.hid (Ov.lit w w.heap.size 3 [.int .i64 (n / 40), .int .i64 (n - n / 40 * 40)] #[.int .i64 (n / 40), .int .i64 (n - n / 40 * 40)] (Nat.le_refl _) rfl (by simp))
    go_enter Tryd.func42, Tryd.ntmps42
    go_wp2
    go_ret
    rw [e.out]
    exact ⟨_, rfl, ho.out, below_alloc1 _ _⟩

/-- A variable of one cell, at block g. -/
def Blk1 (w : World) (g : Nat) (v : Value) (t : TypeId) : Prop := w.heap[g]? = some (.cells #[v] t (0, 0))
theorem Blk1.grown {w w' : World} {g : Nat} {v : Value} {t : TypeId} {row : Option Nat} (h : Blk1 w g v t) (hg : w.grownBy w' row) (hne : some g ≠ row) : Blk1 w' g v t := (hg.block g (lt_of_block h) hne).trans h
theorem Blk1.alloc {w : World} {g : Nat} {v : Value} {t : TypeId} (h : Blk1 w g v t) (o : Obj) : Blk1 (w.alloc o) g v t := ((below_alloc1 w o).block g (lt_of_block h)).trans h
theorem Blk1.setOther {w : World} {g : Nat} {v : Value} {t : TypeId} (h : Blk1 w g v t) {p : Addr} (hne : g ≠ p.block) (u : Value) : Blk1 (w.setCell p u) g v t := (Below.heap_setCell w p u g hne).trans h
theorem Blk1.ne {w : World} {g g' : Nat} {v v' : Value} {t t' : TypeId} (h : Blk1 w g v t) (h' : Blk1 w g' v' t') (hne : t ≠ t') : g ≠ g' := by
  rintro rfl
  unfold Blk1 at *
  rw [h] at h'
  simp at h'
  exact hne h'.2
theorem Blk1.notRow {w : World} {g B : Nat} {v x : Value} {t e : TypeId} {l : List UInt8} (h : Blk1 w g x t) (ho : Ob w B e v l) (hne : t ≠ e) : some g ≠ v.ownBlock := by
  intro hg
  rcases ho.2 with ⟨rfl, _⟩ | ⟨g', cap, cur, rfl, _, hh, _⟩
  · simp [Value.ownBlock] at hg
  · simp [Value.ownBlock] at hg
    subst hg
    unfold Blk1 at h
    rw [h] at hh
    simp at hh
    exact hne hh.2

abbrev writeV (gc go : Nat) : Value := .func (.func 28) #[] #[.pointer (some ⟨gc, 0, none⟩), .pointer (some ⟨go, 0, none⟩)]
/-- The two variables that the closure knows. -/
def Wv (w : World) (B : Nat) (gc go : Nat) (v : Value) (l : List UInt8) : Prop :=
  B ≤ w.heap.size ∧ B ≤ gc ∧ B ≤ go ∧ Blk1 w gc (writeV gc go) 49 ∧ Blk1 w go v 24 ∧ Ob w B 5 v l

theorem Wv.put {w w2 : World} {B : Nat} {gc go : Nat} {v v' : Value} {l l' : List UInt8} {o : Obj} (h : Wv w B gc go v l) (ho : Ob w2 B 5 v' l') (hg : (w.alloc o).grownBy w2 v.ownBlock) :
    Wv (w2.setCell ⟨go, 0, none⟩ v') B gc go v' l' ∧ Below B w (w2.setCell ⟨go, 0, none⟩ v') ∧ w2.cell? ⟨go, 0, none⟩ = some v ∧ w2.frozen? ⟨go, 0, none⟩ = false := by
  obtain ⟨hB, hc, hgo, kc, ko, hob⟩ := h
  have hb' : Below B w (w.alloc o) := (below_alloc1 w o).mono hB
  have kc2 : Blk1 w2 gc (writeV gc go) 49 := Blk1.grown (w := w.alloc o) (kc.alloc o) hg (kc.notRow hob (by decide))
  have ko2 : Blk1 w2 go v 24 := Blk1.grown (w := w.alloc o) (ko.alloc o) hg (ko.notRow hob (by decide))
  have hb2 : Below B w w2 := (hob.alloc o).grew hb' hB hg
  have n2 := kc2.ne ko2 (by decide)
  refine ⟨⟨Nat.le_trans hB (by simpa [World.setCell] using hb2.size), hc, hgo, kc2.setOther n2 _, one_setCell ko2, ?_⟩, ?_, cell_of_one ko2, free_of_one ko2⟩
  · exact ownsRow_setCell_other ho (fun e => ko2.notRow ho (by decide) e.symm) _
  · exact Only.below ((Only.refl go w2).setCell rfl _) hb2 hgo (Nat.le_trans hB hb2.size)

theorem wrap_u8 (z : Int) (h0 : 0 ≤ z) (h1 : z < 256) : IntKind.u8.wrap z = z := by
  simp [IntKind.wrap, IntKind.bits, IntKind.signed] <;> omega

set_option maxHeartbeats 1600000 in
theorem oidWrite : ∀ (n m : Nat) (x y : Int) (B gc go : Nat) (v : Value) (pre : List UInt8) (w : World), x = (n : Int) → y = (m : Int) → n ≤ 2147483647 → m ≤ 128 → pre.length + n ≤ 3000000000 → Wv w B gc go v pre →
    Calls Tryd.prog 28 #[.int .i64 x, .int .i64 y, .pointer (some ⟨gc, 0, none⟩), .pointer (some ⟨go, 0, none⟩)] w fun e w' =>
      e = .returned (.tuple #[]) ∧ (∃ v', Wv w' B gc go v' (pre ++ spl n m)) ∧ Below B w w' := by
  obtain ⟨i0, hi, hz0, hz1, hz2⟩ := info_parts u8_info
  intro n
  induction n using Nat.strongRecOn with
  | ind n ih =>
    intro m x y B gc go v pre w hx hy hn hm hl hS
    have HX := Lib.hid hx
    have HY := Lib.hid hy
    have x0 : 0 ≤ x := by omega
    have x1 : x ≤ 2147483647 := by omega
    have y0 : 0 ≤ y := by omega
    have y1 : y ≤ 128 := by omega
    have hbyte : Hid (∃ z : UInt8, z = UInt8.ofNat (n % 128 + m) ∧ x % 128 + y = (z.toNat : Int)) := ⟨_, rfl, by rw [u8n _ (by omega)]; omega⟩
    clear hx hy
    have IH : Hid (∀ pre w v, 128 ≤ n → pre.length + n ≤ 3000000000 → Wv w B gc go v pre → Calls Tryd.prog 28 #[.int .i64 (x / 128), .int .i64 128, .pointer (some ⟨gc, 0, none⟩), .pointer (some ⟨go, 0, none⟩)] w fun e w' =>
      e = .returned (.tuple #[]) ∧ (∃ v', Wv w' B gc go v' (pre ++ spl (n / 128) 128)) ∧ Below B w w') :=
      fun pre w v h hl hS => ih (n / 128) (by omega) 128 (x / 128) 128 B gc go v pre w (by have := HX.out; omega) rfl (by omega) (by omega) (by omega) hS
    clear ih
    by_cases hge : 128 ≤ n
    · have hge' : 128 ≤ x := by have := HX.out; omega
      have hsp := Lib.hid (spl_big (m := m) hge)
      have cc := cell_of_one hS.2.2.2.1
      have co := cell_of_one hS.2.2.2.2.1
      have hB := hS.1
      obtain ⟨A, c, rfl, hc, hbs⟩ := hS.2.2.2.2.2.slice
      go_enter Tryd.func28, Tryd.ntmps28
      go_wp2_with fail
      refine (IH.out pre w _ hge hl hS).mono ?_
      rintro e w1 ⟨rfl, ⟨v1, hS1⟩, hB1⟩
      have hlen : (spl (n / 128) 128).length ≤ 5 := spl_len5 _ _ (by omega)
      clear hS hbs cc co
      have hpre : (pre ++ spl (n / 128) 128).length ≤ 3000000000 := by simp; omega
      have hF : Hid (pre ++ spl n m = (pre ++ spl (n / 128) 128) ++ [UInt8.ofNat (n % 128 + m)]) := by unfold Hid; rw [hsp.out, List.append_assoc]
      generalize pre ++ spl (n / 128) 128 = pre1 at *
      obtain ⟨z, hz, hzv⟩ := hbyte.out
      rw [← hz] at hF
      have hob := hS1.2.2.2.2.2
      have hB' := hS1.1
      obtain ⟨A1, c1, rfl, hc1, hbs1⟩ := hob.slice
      have co := cell_of_one hS1.2.2.2.2.1
      have hzb := UInt8.toNat_lt z
      have hmod : 0 ≤ x % 128 + y ∧ x % 128 + y < 256 := by omega
      have HZ := Lib.hid hzv
      clear hzv hz hsp
      go_wp2_with (at_builtin; (refine wpList_appendB rfl _ _ 24 rfl B 5 i0 (.int .u8 0) Tryd.underlying24 hi hz0 hz1 hz2 rfl _ pre1 rfl (hob.alloc _) _ _ _ [z] rfl (Bs.new1 w1 z _ 5 HZ.out) ?ab1 ?ab2 ?_))
      case ab1 => (try simp); omega
      case ab2 => (try simp); omega
      intro v' w9 hob9 hg9 _ _
      obtain ⟨hS9, hBl9, hcc9, hff9⟩ := hS1.put hob9 hg9
      obtain ⟨A9, c9, rfl, _, _⟩ := hob9.slice
      go_wp2
      go_end0
      simp only [List.length_append, List.length_cons, List.length_nil, Nat.zero_add] at hS9 hBl9
      exact ⟨rfl, ⟨_, by rw [hF.out]; exact hS9⟩, hB1.trans hBl9⟩
    · have hge' : ¬ 128 ≤ x := by have := HX.out; omega
      have hF : Hid (pre ++ spl n m = pre ++ [UInt8.ofNat (n % 128 + m)]) := by unfold Hid; rw [spl_small (by omega), Nat.mod_eq_of_lt (by omega)]
      obtain ⟨z, hz, hzv⟩ := hbyte.out
      rw [← hz] at hF
      have hob := hS.2.2.2.2.2
      have hB' := hS.1
      obtain ⟨A1, c1, rfl, hc1, hbs1⟩ := hob.slice
      have co := cell_of_one hS.2.2.2.2.1
      have hzb := UInt8.toNat_lt z
      have hmod : 0 ≤ x % 128 + y ∧ x % 128 + y < 256 := by omega
      have HZ := Lib.hid hzv
      clear hzv hz
      go_enter Tryd.func28, Tryd.ntmps28
      go_wp2_with (at_builtin; (refine wpList_appendB rfl _ _ 24 rfl B 5 i0 (.int .u8 0) Tryd.underlying24 hi hz0 hz1 hz2 rfl _ pre rfl (hob.alloc _) _ _ _ [z] rfl (Bs.new1 w z _ 5 HZ.out) ?ab3 ?ab4 ?_))
      case ab3 => (try simp); omega
      case ab4 => (try simp); omega
      intro v' w9 hob9 hg9 _ _
      obtain ⟨hS9, hBl9, hcc9, hff9⟩ := hS.put hob9 hg9
      obtain ⟨A9, c9, rfl, _, _⟩ := hob9.slice
      go_wp2
      go_end0
      simp only [List.length_append, List.length_cons, List.length_nil, Nat.zero_add] at hS9 hBl9
      exact ⟨rfl, ⟨_, by rw [hF.out]; exact hS9⟩, hBl9⟩
end Go.Proofs.YtfighoplbmmijaaDoor
