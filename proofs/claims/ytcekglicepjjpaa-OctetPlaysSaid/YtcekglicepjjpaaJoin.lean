/-
  The contracts of octet.Join, Common, alike, and of quittanceref01's Join, Common, Copy.
-/
import Derived.Test.YtcekglicepjjpaaKnown
import Derived.Test.YtcekglicepjjpaaOpen
namespace Go.Proofs.Ytcekglicepjjpaa
open Go.RowKit
set_option linter.unusedVariables false
set_option linter.unusedSimpArgs false

/-- The first k rows, joined. -/
def catL (ls : List (List UInt8)) (k : Nat) : List UInt8 := (ls.take k).flatten
theorem catL_succ {ls : List (List UInt8)} {k : Nat} (h : k < ls.length) : catL ls (k + 1) = catL ls k ++ rowL ls k := by
  unfold catL
  rw [List.take_succ_eq_append_getElem h]
  simp only [List.flatten_append, List.flatten_cons, List.flatten_nil, List.append_nil, rowL, List.getD, List.getElem?_eq_getElem h, Option.getD_some]
theorem catL_all {ls : List (List UInt8)} {k : Nat} (h : ls.length ≤ k) : catL ls k = ls.flatten := by
  unfold catL; rw [List.take_of_length_le h]
theorem catL_le (ls : List (List UInt8)) (k : Nat) : (catL ls k).length ≤ ls.flatten.length := by
  unfold catL
  have : ls.flatten = (ls.take k).flatten ++ (ls.drop k).flatten := by rw [← List.flatten_append, List.take_append_drop]
  rw [this]; simp

set_option maxHeartbeats 1600000 in
theorem octJoin (A : Option Addr) (n c : Nat) (ls : List (List UInt8)) (w : World) (h : Bss w A n ls) (hn : n ≤ 1099511627776) (ht : ls.flatten.length ≤ 1099511627776) :
    Calls Try.prog 19 #[.slice A n c] w (NewBs w ls.flatten) := by
  obtain ⟨i0, hi, hz0, hz1, hz2⟩ := info_parts u8_info
  have hle := fun k => catL_le ls k
  have HLE := Lib.hid hle; clear hle
  have hmk : ∀ m : Nat, m ≤ 1099511627776 → ∀ W : World, _ := fun m hm => run_makeB (P := Try.prog) 22 5 i0 Try.underlying22 hi hz0 hz1 hz2 (m : Int) (by omega) (by omega)
  have HMK := Lib.hid hmk; clear hmk
  go_enter Try.func19, Try.ntmps19
  go_wp2
  go_loop [3, 11] (fun s i => ∃ k : Nat, k ≤ n ∧ i = .int .i64 (k : Int) ∧ s = .int .i64 ((catL ls k).length : Int)) (fun _ i => n - (intOf i).toNat)
  case atStart => exact ⟨0, Nat.zero_le _, rfl, by simp [catL]⟩
  case round =>
    obtain ⟨k, hk, rfl, rfl⟩ := hrel
    by_cases hlt : k < n
    · obtain ⟨b, o, Ai, ni, ci, rfl, hc, hbs, hni⟩ := h.at_ hlt
      have hs : Hid (((catL ls (k + 1)).length : Int) = (catL ls k).length + ni) := by
        have h1 := hbs.len
        unfold Hid
        rw [catL_succ (by have := h.len; omega), List.length_append, h1]; omega
      have h1 := HLE.out k
      have h2 := HLE.out (k + 1)
      have hb1 : (catL ls k).length ≤ 1099511627776 := by omega
      have hb2 : ni ≤ 1099511627776 := by have := hs.out; omega
      clear h1 h2
      generalize (catL ls k).length = S at *
      go_wp2
      go_round
      case rel => exact ⟨k + 1, by omega, by go_num, by rw [hs.out]⟩
      case measure => simp [intOf]; omega
    · have hkn : Hid (catL ls k = ls.flatten) := catL_all (by have := h.len; omega)
      rw [hkn.out]
      have hmk := HMK.out ls.flatten.length ht
      generalize hS : ls.flatten.length = S at *
      have HS := Lib.hid hS; clear hS
      go_wp2
      go_loopw [6, 24] (fun v i wr => ∃ k : Nat, k ≤ n ∧ i = .int .i64 (k : Int) ∧ Ob wr w.heap.size 5 v (catL ls k) ∧ Below w.heap.size w wr) (fun _ i _ => n - (intOf i).toNat)
      case atStart => exact ⟨0, Nat.zero_le _, rfl, Ob.made _ _ _ _ (Nat.le_refl _) (by omega), (Below.refl _ _).alloc (Nat.le_refl _) _⟩
      case round =>
        obtain ⟨k, hk, rfl, hob, hbel⟩ := hrel
        by_cases hlt : k < n
        · obtain ⟨b, o, Ai, ni, ci, rfl, hc, hbs, hni⟩ := (h.below hbel).at_ hlt
          have hsz : Hid ((catL ls k).length + ni ≤ 1099511627776) := by
            have h1 := hbs.len
            have h2 := HLE.out (k + 1)
            rw [catL_succ (by have := h.len; omega), List.length_append, h1] at h2
            unfold Hid; omega
          have hcat : Hid (catL ls (k + 1) = catL ls k ++ rowL ls k) := catL_succ (by have := h.len; omega)
          go_wp2_with (at_builtin; refine wpList_appendB rfl _ _ 22 rfl w.heap.size 5 i0 (.int .u8 0) Try.underlying22 hi hz0 hz1 hz2 rfl _ (catL ls k) rfl hob _ _ _ (rowL ls k) rfl hbs ?ab1 ?ab2 ?_)
          case ab1 => have := hsz.out; omega
          case ab2 => exact hbel.size
          intro v' w1 hob1 hg1 _ _
          have hbel1 := hob.grew hbel (Nat.le_refl _) hg1
          rw [← hcat.out] at hob1
          go_wp2
          go_roundw
          case rel => exact ⟨k + 1, by omega, by go_num, hob1, hbel1⟩
          case measure => simp [intOf]; omega
        · have hkn : Hid (catL ls k = ls.flatten) := catL_all (by have := h.len; omega)
          rw [hkn.out] at hob
          obtain ⟨A', c', rfl, hc', hbs'⟩ := hob.slice
          go_wp2
          go_ret
          exact ⟨A', _, c', rfl, hob, hbel⟩


set_option maxHeartbeats 1600000 in
theorem refJoin (A : Option Addr) (n c : Nat) (ls : List (List UInt8)) (w : World) (h : Bss w A n ls) (hn : n ≤ 1099511627776) (ht : ls.flatten.length ≤ 1099511627776) :
    Calls Try.prog 20 #[.slice A n c] w (NewBs w ls.flatten) := by
  obtain ⟨i0, hi, hz0, hz1, hz2⟩ := info_parts u8_info
  have hle := fun k => catL_le ls k
  have HLE := Lib.hid hle; clear hle
  go_enter Try.func20, Try.ntmps20
  go_wp2
  go_loopw [3, 4] (fun v i wr => ∃ k : Nat, k ≤ n ∧ i = .int .i64 (k : Int) ∧ Ob wr w.heap.size 5 v (catL ls k) ∧ Below w.heap.size w wr) (fun _ i _ => n - (intOf i).toNat)
  case atStart => exact ⟨0, Nat.zero_le _, rfl, Ob.nil _ _ _, Below.refl _ _⟩
  case round =>
    obtain ⟨k, hk, rfl, hob, hbel⟩ := hrel
    by_cases hlt : k < n
    · obtain ⟨b, o, Ai, ni, ci, rfl, hc, hbs, hni⟩ := (h.below hbel).at_ hlt
      have g1 : (k : Int) < n := by omega
      have hsz : Hid ((catL ls k).length + ni ≤ 1099511627776) := by
        have h1 := hbs.len
        have h2 := HLE.out (k + 1)
        rw [catL_succ (by have := h.len; omega), List.length_append, h1] at h2
        unfold Hid; omega
      have hcat : Hid (catL ls (k + 1) = catL ls k ++ rowL ls k) := catL_succ (by have := h.len; omega)
      go_wp2_with (at_builtin; refine wpList_appendB rfl _ _ 22 rfl w.heap.size 5 i0 (.int .u8 0) Try.underlying22 hi hz0 hz1 hz2 rfl _ (catL ls k) rfl hob _ _ _ (rowL ls k) rfl hbs ?ab1 ?ab2 ?_)
      case ab1 => have := hsz.out; omega
      case ab2 => exact hbel.size
      intro v' w1 hob1 hg1 _ _
      have hbel1 := hob.grew hbel (Nat.le_refl _) hg1
      rw [← hcat.out] at hob1
      go_wp2
      go_roundw
      case rel => exact ⟨k + 1, by omega, by go_num, hob1, hbel1⟩
      case measure => simp [intOf]; omega
    · have hkn : Hid (catL ls k = ls.flatten) := catL_all (by have := h.len; omega)
      rw [hkn.out] at hob
      obtain ⟨A', c', rfl, hc', hbs'⟩ := hob.slice
      go_wp2
      go_ret
      exact ⟨A', _, c', rfl, hob, hbel⟩

/-- How many bytes two rows begin with alike. -/
def alikeL : List UInt8 → List UInt8 → Nat
  | a :: x, b :: y => if a.toNat = b.toNat then alikeL x y + 1 else 0
  | _, _ => 0
theorem alikeL_le : ∀ a b : List UInt8, alikeL a b ≤ a.length ∧ alikeL a b ≤ b.length
  | [], b => by simp [alikeL]
  | _ :: _, [] => by simp [alikeL]
  | x :: a, y :: b => by
    have := alikeL_le a b
    unfold alikeL
    split <;> simp <;> omega

set_option maxHeartbeats 1600000 in
theorem octAlike (A B : Option Addr) (n m c d : Nat) (a b : List UInt8) (w : World) (ha : Bs w A n a) (hb : Bs w B m b)
    (hnm : n ≤ 1099511627776) (hmm : m ≤ 1099511627776) :
    Calls Try.prog 38 #[.slice A n c, .slice B m d] w fun e w' => e = .returned (.int .i64 ((alikeL a b : Nat) : Int)) ∧ Qt w w' := by
  by_cases hX : m < n
  · go_enter Try.func38, Try.ntmps38
    go_wp2
    go_loopw [13] (fun i wr => ∃ k : Nat, k ≤ m ∧ i = .int .i64 k ∧ Hid (alikeL a b = k + alikeL (a.drop k) (b.drop k)) ∧ Qt w wr) (fun i _ => m - (intOf i).toNat)
    case atStart => exact ⟨0, Nat.zero_le _, rfl, by simp [Hid], Qt.refl _⟩
    case round =>
      obtain ⟨k, hkX, rfl, hc, hq⟩ := hrel
      by_cases hlt : k < m
      · have h1 : k < n := by omega
        have h2 : k < m := by omega
        have l1 : k < a.length := by have := ha.len; omega
        have l2 : k < b.length := by have := hb.len; omega
        obtain ⟨ba, oa, rfl, ca⟩ := (ha.qt hq).at_ h1
        obtain ⟨bb, ob, rfl, cb⟩ := (hb.qt hq).at_ h2
        have i1 : (k : Int) < n := by omega
        have i2 : (k : Int) < m := by omega
        have hs : Hid (alikeL a b = k + if nth a k = nth b k then alikeL (a.drop (k + 1)) (b.drop (k + 1)) + 1 else 0) := by
          show _ = _
          rw [hc.out, drop_cons l1, drop_cons l2, alikeL]
          simp only [nth, Int.ofNat_inj]
        clear hc
        by_cases h3 : nth a k = nth b k
        · have e1 : (nth a k != nth b k) = false := by simp [h3]
          have HF : Hid (alikeL a b = (k + 1) + alikeL (a.drop (k + 1)) (b.drop (k + 1))) := by
            unfold Hid; rw [hs.out, if_pos h3]; omega
          clear hs h3
          go_wp2
          go_quiet (fail)
          go_wp2
          go_roundw
          case rel => exact ⟨k + 1, by omega, by go_num, HF, hq.drewN _⟩
          case measure => simp [intOf]; omega
        · have e1 : (nth a k != nth b k) = true := by simp [h3]
          have HF : Hid (alikeL a b = k) := by unfold Hid; rw [hs.out, if_neg h3]; omega
          clear hs h3
          go_wp2
          go_quiet (fail)
          go_wp2
          go_ret
          exact ⟨by rw [HF.out]; rfl, hq.drewN _⟩
      · have HF : Hid (alikeL a b = m) := by
          unfold Hid
          rw [hc.out, show k = m by omega, drop_end (l := b) (by rw [hb.len]; omega)]; simp [alikeL]
        go_wp2
        go_ret
        exact ⟨by rw [HF.out]; rfl, hq⟩
  · go_enter Try.func38, Try.ntmps38
    go_wp2
    go_loopw [13] (fun i wr => ∃ k : Nat, k ≤ n ∧ i = .int .i64 k ∧ Hid (alikeL a b = k + alikeL (a.drop k) (b.drop k)) ∧ Qt w wr) (fun i _ => n - (intOf i).toNat)
    case atStart => exact ⟨0, Nat.zero_le _, rfl, by simp [Hid], Qt.refl _⟩
    case round =>
      obtain ⟨k, hkX, rfl, hc, hq⟩ := hrel
      by_cases hlt : k < n
      · have h1 : k < n := by omega
        have h2 : k < m := by omega
        have l1 : k < a.length := by have := ha.len; omega
        have l2 : k < b.length := by have := hb.len; omega
        obtain ⟨ba, oa, rfl, ca⟩ := (ha.qt hq).at_ h1
        obtain ⟨bb, ob, rfl, cb⟩ := (hb.qt hq).at_ h2
        have i1 : (k : Int) < n := by omega
        have i2 : (k : Int) < m := by omega
        have hs : Hid (alikeL a b = k + if nth a k = nth b k then alikeL (a.drop (k + 1)) (b.drop (k + 1)) + 1 else 0) := by
          show _ = _
          rw [hc.out, drop_cons l1, drop_cons l2, alikeL]
          simp only [nth, Int.ofNat_inj]
        clear hc
        by_cases h3 : nth a k = nth b k
        · have e1 : (nth a k != nth b k) = false := by simp [h3]
          have HF : Hid (alikeL a b = (k + 1) + alikeL (a.drop (k + 1)) (b.drop (k + 1))) := by
            unfold Hid; rw [hs.out, if_pos h3]; omega
          clear hs h3
          go_wp2
          go_quiet (fail)
          go_wp2
          go_roundw
          case rel => exact ⟨k + 1, by omega, by go_num, HF, hq.drewN _⟩
          case measure => simp [intOf]; omega
        · have e1 : (nth a k != nth b k) = true := by simp [h3]
          have HF : Hid (alikeL a b = k) := by unfold Hid; rw [hs.out, if_neg h3]; omega
          clear hs h3
          go_wp2
          go_quiet (fail)
          go_wp2
          go_ret
          exact ⟨by rw [HF.out]; rfl, hq.drewN _⟩
      · have HF : Hid (alikeL a b = n) := by
          unfold Hid
          rw [hc.out, show k = n by omega, drop_end (l := a) (by rw [ha.len]; omega)]; simp [alikeL]
        go_wp2
        go_ret
        exact ⟨by rw [HF.out]; rfl, hq⟩


/-- How many bytes r0 and all of rs begin with alike. -/
def minL (r0 : List UInt8) (rs : List (List UInt8)) : Nat := rs.foldl (fun m b => min m (alikeL r0 b)) r0.length
def commonL : List (List UInt8) → Nat
  | [] => 0
  | r0 :: rs => minL r0 rs
theorem foldl_min_le (r0 : List UInt8) : ∀ (rs : List (List UInt8)) (m : Nat), rs.foldl (fun m b => min m (alikeL r0 b)) m ≤ m
  | [], m => Nat.le_refl _
  | b :: rs, m => by
    have := foldl_min_le r0 rs (min m (alikeL r0 b))
    simp only [List.foldl_cons]; omega
theorem minL_le (r0 : List UInt8) (rs : List (List UInt8)) : minL r0 rs ≤ r0.length := foldl_min_le _ _ _
theorem minL_succ {r0 : List UInt8} {rs : List (List UInt8)} {k : Nat} (h : k < rs.length) : minL r0 (rs.take (k + 1)) = min (minL r0 (rs.take k)) (alikeL r0 (rowL rs k)) := by
  unfold minL
  rw [List.take_succ_eq_append_getElem h]
  simp only [List.foldl_append, List.foldl_cons, List.foldl_nil, rowL, List.getD, List.getElem?_eq_getElem h, Option.getD_some]
theorem alikeL_take : ∀ (a b : List UInt8) (M : Nat), M ≤ a.length → alikeL (a.take M) b = min M (alikeL a b)
  | [], b, M, h => by simp at h; subst h; simp [alikeL]
  | x :: a, [], M, h => by cases M <;> simp [alikeL]
  | x :: a, y :: b, 0, h => by simp [alikeL]
  | x :: a, y :: b, M + 1, h => by
    have := alikeL_take a b M (by simpa using h)
    simp only [List.take_succ_cons, alikeL]
    split <;> omega

theorem Bss.cut {w : World} {A : Option Addr} {n : Nat} {ls : List (List UInt8)} (h : Bss w A n ls) (i : Nat) :
    Bss w (Option.map (fun x => x.add i) A) (n - i) (ls.drop i) := by
  refine ⟨by simp [h.1], fun k x hx => ?_⟩
  rw [List.getElem?_drop] at hx
  obtain ⟨b, o, Ai, ni, ci, rfl, hc, r⟩ := h.2 _ x hx
  refine ⟨b, o + i, Ai, ni, ci, by simp [Addr.add_none], ?_, r⟩
  rw [Nat.add_assoc]; exact hc

/-- All rows are of at most N bytes. -/
def Short (N : Nat) (ls : List (List UInt8)) : Prop := ∀ k, (rowL ls k).length ≤ N
theorem Short.drop {N : Nat} {ls : List (List UInt8)} (h : Short N ls) (i : Nat) : Short N (ls.drop i) := by
  intro k
  have := h (i + k)
  simpa [rowL, List.getD, List.getElem?_drop] using this

set_option maxHeartbeats 1600000 in
theorem octCommon (A : Option Addr) (n c : Nat) (ls : List (List UInt8)) (w : World) (h : Bss w A n ls) (hc : n ≤ c) (hn : n ≤ 1099511627776) (hsh : Short 1099511627776 ls) :
    Calls Try.prog 21 #[.slice A n c] w fun e w' => e = .returned (.int .i64 ((commonL ls : Nat) : Int)) ∧ Qt w w' := by
  by_cases h0 : n = 0
  · have : ls = [] := List.eq_nil_of_length_eq_zero (by rw [h.len]; exact h0)
    subst this
    subst h0
    go_enter Try.func21, Try.ntmps21
    go_wp2
    go_ret
    exact ⟨rfl, Qt.refl _⟩
  · obtain ⟨b, o, A0, n0, c0, rfl, hc0, hbs0, hnc0⟩ := h.at_ (k := 0) (by omega)
    have hn0 : n0 ≤ 1099511627776 := by have := hbs0.len; have := hsh 0; omega
    obtain ⟨r0, rs, rfl⟩ : ∃ r0 rs, ls = r0 :: rs := by
      cases ls with
      | nil => have := h.len; simp at this; omega
      | cons r0 rs => exact ⟨r0, rs, rfl⟩
    have hr0 : rowL (r0 :: rs) 0 = r0 := rfl
    rw [hr0] at hbs0
    clear hr0
    have hl0 := Lib.hid hbs0.len
    have e0 : ((n : Int) == 0) = false := by rw [beq_eq_false_iff_ne]; omega
    have p0 : (0 : Int) < n := by omega
    have p1 : (1 : Int) ≤ n := by omega
    have hrow := h.cut 1
    have hsh1 := hsh.drop 1
    simp only [List.drop_succ_cons, List.drop_zero] at hrow hsh1
    have hlr : Hid (rs.length = n - 1) := hrow.len
    simp only [Nat.add_zero] at hc0
    by_cases hc1 : c = 1
    · have hrs : rs = [] := List.eq_nil_of_length_eq_zero (by have := hlr.out; omega)
      subst hrs
      have : n = 1 := by omega
      subst this
      subst hc1
      go_enter Try.func21, Try.ntmps21
      go_wp2
      refine wp_loop_rounds 1 ?_
      rw [rounds_succ]
      go_wp2
      go_ret
      exact ⟨by rw [commonL, minL, List.foldl_nil, hl0.out]; rfl, Qt.refl _⟩
    · have q1 : (1 : Int) < c := by omega
      go_enter Try.func21, Try.ntmps21
      go_wp2
      go_loopw [3, 15] (fun v i wr => ∃ k : Nat, k ≤ n - 1 ∧ i = .int .i64 k ∧ v = .slice A0 (minL r0 (rs.take k)) c0 ∧ Qt w wr) (fun _ i _ => (n - 1) - (intOf i).toNat)
      case atStart => exact ⟨0, Nat.zero_le _, rfl, by rw [List.take_zero, minL, List.foldl_nil, hl0.out], Qt.refl _⟩
      case round =>
        obtain ⟨k, hk, rfl, rfl, hq⟩ := hrel
        have hM := minL_le r0 (rs.take k)
        rw [hl0.out] at hM
        by_cases hlt : k < n - 1
        · obtain ⟨b', o', Ai, ni, ci, e', hci, hbsi, hnci⟩ := (hrow.qt hq).at_ hlt
          simp [Addr.add_none] at e'
          obtain ⟨rfl, rfl⟩ := e'
          have g1 : (k : Int) < ((n - 1 : Nat) : Int) := by omega
          have hni : ni ≤ 1099511627776 := by have := hbsi.len; have := hsh1 k; omega
          have hs : Hid (alikeL (r0.take (minL r0 (rs.take k))) (rowL rs k) = minL r0 (rs.take (k + 1))) := by
            unfold Hid
            rw [alikeL_take _ _ _ (minL_le _ _), minL_succ (by have := hlr.out; omega)]
          have hM2 : minL r0 (rs.take (k + 1)) ≤ minL r0 (rs.take k) := by rw [minL_succ (by have := hlr.out; omega)]; omega
          have hbsM := (hbs0.qt hq).take hM
          generalize minL r0 (rs.take k) = M at *
          generalize hM2e : minL r0 (rs.take (k + 1)) = M2 at *
          have HM2 := Lib.hid hM2e; clear hM2e
          go_wp2_with fail
          refine (octAlike A0 Ai M ni c0 ci _ _ _ hbsM hbsi (by omega) hni).mono ?_
          rintro e w1 ⟨rfl, hq1⟩
          rw [hs.out]
          go_wp2
          go_roundw
          case rel => exact ⟨k + 1, by omega, by go_num, by rw [HM2.out], hq.trans hq1⟩
          case measure => simp [intOf]; omega
        · have hF : Hid (commonL (r0 :: rs) = minL r0 (rs.take k)) := by
            unfold Hid commonL
            rw [List.take_of_length_le (by have := hlr.out; omega)]
          generalize minL r0 (rs.take k) = M at *
          go_wp2
          go_ret
          exact ⟨by rw [hF.out]; rfl, hq⟩


theorem alikeL_step : ∀ (k : Nat) (a b : List UInt8), k ≤ alikeL a b → (k < alikeL a b ↔ k < a.length ∧ k < b.length ∧ nth a k = nth b k)
  | 0, [], b, _ => by simp [alikeL]
  | 0, x :: a, [], _ => by simp [alikeL]
  | 0, x :: a, y :: b, _ => by
    unfold alikeL nth
    simp only [List.getD_cons_zero, List.length_cons, Int.ofNat_inj]
    split <;> simp_all
  | k + 1, [], b, h => by simp [alikeL] at h
  | k + 1, x :: a, [], h => by simp [alikeL] at h
  | k + 1, x :: a, y :: b, h => by
    unfold alikeL at h ⊢
    split at h
    · rename_i he
      have := alikeL_step k a b (by omega)
      rw [if_pos he]
      simp only [List.length_cons, nth, List.getD_cons_succ] at this ⊢
      omega
    · omega
theorem le_minL {r0 : List UInt8} {m : Nat} : ∀ {rs : List (List UInt8)}, m ≤ minL r0 rs ↔ m ≤ r0.length ∧ ∀ b ∈ rs, m ≤ alikeL r0 b := by
  have key : ∀ (rs : List (List UInt8)) (s : Nat), m ≤ rs.foldl (fun m b => min m (alikeL r0 b)) s ↔ m ≤ s ∧ ∀ b ∈ rs, m ≤ alikeL r0 b := by
    intro rs
    induction rs with
    | nil => intro s; simp
    | cons b rs ih =>
      intro s
      simp only [List.foldl_cons, ih, List.mem_cons, forall_eq_or_imp, Nat.le_min]
      constructor
      · rintro ⟨⟨h1, h2⟩, h3⟩; exact ⟨h1, h2, h3⟩
      · rintro ⟨h1, h2, h3⟩; exact ⟨⟨h1, h2⟩, h3⟩
  intro rs
  exact key rs _

theorem rowL_mem {rs : List (List UInt8)} {k : Nat} (h : k < rs.length) : rowL rs k ∈ rs := by
  unfold rowL
  rw [List.getD_eq_getElem?_getD, List.getElem?_eq_getElem h]
  exact List.getElem_mem h

set_option maxRecDepth 100000 in
set_option maxHeartbeats 1600000 in
theorem refCommon (A : Option Addr) (n c : Nat) (ls : List (List UInt8)) (w : World) (h : Bss w A n ls) (hn : n ≤ 1099511627776) (hsh : Short 1099511627776 ls) :
    Calls Try.prog 22 #[.slice A n c] w fun e w' => e = .returned (.int .i64 ((commonL ls : Nat) : Int)) ∧ Qt w w' := by
  by_cases h0 : n = 0
  · have : ls = [] := List.eq_nil_of_length_eq_zero (by rw [h.len]; exact h0)
    subst this
    subst h0
    go_enter Try.func22, Try.ntmps22
    go_wp2
    go_ret
    exact ⟨rfl, Qt.refl _⟩
  · obtain ⟨b, o, A0, n0, c0, rfl, hc0, hbs0, hnc0⟩ := h.at_ (k := 0) (by omega)
    have hn0 : n0 ≤ 1099511627776 := by have := hbs0.len; have := hsh 0; omega
    obtain ⟨r0, rs, rfl⟩ : ∃ r0 rs, ls = r0 :: rs := by
      cases ls with
      | nil => have := h.len; simp at this; omega
      | cons r0 rs => exact ⟨r0, rs, rfl⟩
    have hr0 : rowL (r0 :: rs) 0 = r0 := rfl
    rw [hr0] at hbs0
    clear hr0
    have hl0 := Lib.hid hbs0.len
    have e0 : ((n : Int) == 0) = false := by rw [beq_eq_false_iff_ne]; omega
    have p0 : (0 : Int) < n := by omega
    have hlr : Hid (rs.length + 1 = n) := h.len
    simp only [Nat.add_zero] at hc0
    have hcom : Hid (commonL (r0 :: rs) = minL r0 rs) := rfl
    go_enter Try.func22, Try.ntmps22
    go_wp2
    go_loopw [3] (fun i wr => ∃ k : Nat, k ≤ n0 ∧ i = .int .i64 k ∧ Hid (k ≤ minL r0 rs) ∧ Qt w wr) (fun i _ => n0 - (intOf i).toNat)
    case atStart => exact ⟨0, Nat.zero_le _, rfl, Nat.zero_le _, Qt.refl _⟩
    case round =>
      obtain ⟨k, hk, rfl, hkm, hq⟩ := hrel
      obtain ⟨q, rfl⟩ := hq
      by_cases hlt : k < n0
      · obtain ⟨b0, o0, rfl, cb0⟩ := hbs0.at_ hlt
        have g0 : (k : Int) < n0 := by omega
        go_wp2
        go_loopw [4] (fun i wr => ∃ j : Nat, 1 ≤ j ∧ j ≤ n ∧ i = .int .i64 j ∧ Hid (∀ i, i < j - 1 → k < alikeL r0 (rowL rs i)) ∧ Qt w wr) (fun i _ => n - (intOf i).toNat)
        case atStart => exact ⟨1, by omega, by omega, rfl, fun i hi => by omega, Qt.of _ _⟩
        case round =>
          obtain ⟨j, hj1, hj, rfl, hal, hq⟩ := hrel
          obtain ⟨q', rfl⟩ := hq
          by_cases hjlt : j < n
          · obtain ⟨b', o', Aj, nj, cj, e', hcj, hbsj, hncj⟩ := h.at_ hjlt
            cases e'
            have gj : (j : Int) < n := by omega
            have hrow : Hid (rowL (r0 :: rs) j = rowL rs (j - 1)) := by
              unfold Hid
              rw [show j = (j - 1) + 1 by omega]
              rfl
            have hmem : Hid (rowL rs (j - 1) ∈ rs) := rowL_mem (by have := hlr.out; omega)
            have hkal : Hid (k ≤ alikeL r0 (rowL rs (j - 1))) := (le_minL.1 hkm.out).2 _ hmem.out
            rw [hrow.out] at hbsj
            have hlj := Lib.hid hbsj.len
            have hst := Lib.hid (alikeL_step k r0 (rowL rs (j - 1)) hkal.out)
            by_cases hnj : k < nj
            · obtain ⟨bj, oj, rfl, cbj⟩ := hbsj.at_ hnj
              have e1 : decide (nj ≤ k) = false := by simp; omega
              have g1 : (k : Int) < nj := by omega
              by_cases heq : nth (rowL rs (j - 1)) k = nth r0 k
              · have e2 : (nth (rowL rs (j - 1)) k != nth r0 k) = false := by simp [heq]
                have hnew : Hid (∀ i, i < j + 1 - 1 → k < alikeL r0 (rowL rs i)) := by
                  intro i hi
                  by_cases hij : i < j - 1
                  · exact hal.out i hij
                  · have : i = j - 1 := by omega
                    subst this
                    exact hst.out.2 ⟨by rw [hl0.out]; exact hlt, by rw [hlj.out]; exact hnj, heq.symm⟩
                clear heq
                go_wp2
                go_quiet (fail)
                go_wp2
                go_roundw
                case rel => exact ⟨j + 1, by omega, by omega, by go_num, hnew, by first | exact Qt.of _ _ | exact (Qt.of _ _).drewN _⟩
                case measure => simp [intOf]; omega
              · have e2 : (nth (rowL rs (j - 1)) k != nth r0 k) = true := by simp [heq]
                have HF : Hid (commonL (r0 :: rs) = k) := by
                  have h1 : ¬ k < alikeL r0 (rowL rs (j - 1)) := fun hh => heq (hst.out.1 hh).2.2.symm
                  have h2 := (le_minL.1 (Nat.le_refl (minL r0 rs))).2 _ hmem.out
                  have h3 := hkm.out
                  unfold Hid
                  rw [hcom.out]; omega
                clear heq
                go_wp2
                go_quiet (fail)
                go_wp2
                go_ret
                exact ⟨by rw [HF.out]; rfl, by first | exact Qt.of _ _ | exact (Qt.of _ _).drewN _⟩
            · have e1 : decide (nj ≤ k) = true := by simp; omega
              have HF : Hid (commonL (r0 :: rs) = k) := by
                have h1 : ¬ k < alikeL r0 (rowL rs (j - 1)) := fun hh => by have := (hst.out.1 hh).2.1; have := hlj.out; omega
                have h2 := (le_minL.1 (Nat.le_refl (minL r0 rs))).2 _ hmem.out
                have h3 := hkm.out
                unfold Hid
                rw [hcom.out]; omega
              go_wp2
              go_quiet (fail)
              go_wp2
              go_ret
              exact ⟨by rw [HF.out]; rfl, by first | exact Qt.of _ _ | exact (Qt.of _ _).drewN _⟩
          · have hnew : Hid (k + 1 ≤ minL r0 rs) := by
              refine le_minL.2 ⟨by rw [hl0.out]; omega, fun x hx => ?_⟩
              obtain ⟨i, hi, rfl⟩ := List.getElem_of_mem hx
              have := hal.out i (by have := hlr.out; omega)
              simp only [rowL, List.getD, List.getElem?_eq_getElem hi, Option.getD_some] at this
              omega
            go_wp2
            go_roundw
            case rel => exact ⟨k + 1, by omega, by go_num, hnew, Qt.of _ _⟩
            case measure => simp [intOf]; omega
      · have HF : Hid (commonL (r0 :: rs) = n0) := by
          have h1 := minL_le r0 rs
          have h2 := hkm.out
          unfold Hid
          rw [hcom.out]
          rw [hl0.out] at h1
          omega
        go_wp2
        go_ret
        exact ⟨by rw [HF.out]; rfl, Qt.of _ _⟩


set_option maxHeartbeats 800000 in
theorem refCopy (A : Option Addr) (n c : Nat) (l : List UInt8) (w : World) (h : Bs w A n l) (hn : n ≤ 1099511627776) :
    Calls Try.prog 10 #[.slice A n c] w (NewBs w l) := by
  obtain ⟨i0, hi, hz0, hz1, hz2⟩ := info_parts u8_info
  have H := h.below (w' := w.alloc (.cells #[] 5)) ((Below.refl _ _).alloc (Nat.le_refl _) _)
  have ho : Ob (w.alloc (.cells #[] 5)) w.heap.size 5 (.slice (some ⟨w.heap.size, 0, none⟩) 0 0) [] := World.ownsRow_made w #[] 0 (Nat.le_refl _) (Nat.zero_le _) rfl
  go_enter Try.func10, Try.ntmps10
  go_wp2_with (at_builtin; refine wpList_appendB rfl _ _ 22 rfl w.heap.size 5 i0 (.int .u8 0) Try.underlying22 hi hz0 hz1 hz2 rfl _ [] rfl ho _ _ _ l rfl H (by simp; omega) (by simp) ?_)
  intro v' w1 hown hgrow hnil hblk
  have hb : Below w.heap.size w w1 := ((Below.refl _ w).alloc (Nat.le_refl _) _).grown hgrow (by simp) (by intro k hk; simp [Value.ownBlock] at hk; omega)
  obtain ⟨A', c', rfl, hc', hbs⟩ := Ob.slice hown
  go_wp2
  go_ret
  exact ⟨A', _, c', rfl, by simpa using hown, hb⟩

end Go.Proofs.Ytcekglicepjjpaa
