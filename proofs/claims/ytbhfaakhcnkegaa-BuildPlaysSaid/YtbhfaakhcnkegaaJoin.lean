/-
  The contracts of octet.Join, Common, alike, and of quittanceref01's Join, Common, Copy.
-/
import Derived.Test.YtbhfaakhcnkegaaHex
import Derived.Test.YtbhfaakhcnkegaaOpen
namespace Go.Proofs.Ytbhfaakhcnkegaa
open Go.RowKit
set_option linter.unusedVariables false
set_option linter.unusedSimpArgs false
set_option maxRecDepth 4000

/-- The first k rows, joined. -/
def catL (ls : List (List UInt8)) (k : Nat) : List UInt8 := (ls.take k).flatten
theorem catL_succ {ls : List (List UInt8)} {k : Nat} (h : k < ls.length) : catL ls (k + 1) = catL ls k ++ rowL ls k := by
  unfold catL
  rw [List.take_succ_eq_append_getElem h]
  simp only [List.flatten_append, List.flatten_cons, List.flatten_nil, List.append_nil, rowL, List.getD, List.getElem?_eq_getElem h, Option.getD_some]
theorem catL_all {ls : List (List UInt8)} {k : Nat} (h : ls.length ≤ k) : catL ls k = ls.flatten := by
  unfold catL; rw [List.take_of_length_le h]
theorem catL_le (ls : List (List UInt8)) (k : Nat) : (catL ls k).length ≤ ls.flatten.length := by
  unfold catL
  have : ls.flatten = (ls.take k).flatten ++ (ls.drop k).flatten := by rw [← List.flatten_append, List.take_append_drop]
  rw [this]; simp

set_option maxHeartbeats 1600000 in
theorem octJoin (A : Option Addr) (n c : Nat) (ls : List (List UInt8)) (w : World) (h : Bss w A n ls) (hn : n ≤ 1099511627776) (ht : ls.flatten.length ≤ 1099511627776) :
    Calls Try.prog 51 #[.slice A n c] w (NewBs w ls.flatten) := by
  obtain ⟨i0, hi, hz0, hz1, hz2⟩ := info_parts u8_info
  have hle := fun k => catL_le ls k
  have HLE := Lib.hid hle; clear hle
  have hmk : ∀ m : Nat, m ≤ 1099511627776 → ∀ W : World, _ := fun m hm => run_makeB (P := Try.prog) 41 5 i0 Try.underlying41 hi hz0 hz1 hz2 (m : Int) (by omega) (by omega)
  have HMK := Lib.hid hmk; clear hmk
  go_enter Try.func51, Try.ntmps51
  go_wp2
  go_loop [3, 11] (fun s i => ∃ k : Nat, k ≤ n ∧ i = .int .i64 (k : Int) ∧ s = .int .i64 ((catL ls k).length : Int)) (fun _ i => n - (intOf i).toNat)
  case atStart => exact ⟨0, Nat.zero_le _, rfl, by simp [catL]⟩
  case round =>
    obtain ⟨k, hk, rfl, rfl⟩ := hrel
    by_cases hlt : k < n
    · obtain ⟨b, o, Ai, ni, ci, rfl, hc, hbs, hni⟩ := h.at_ hlt
      have hs : Hid (((catL ls (k + 1)).length : Int) = (catL ls k).length + ni) := by
        have h1 := hbs.len
        unfold Hid
        rw [catL_succ (by have := h.len; omega), List.length_append, h1]; omega
      have h1 := HLE.out k
      have h2 := HLE.out (k + 1)
      have hb1 : (catL ls k).length ≤ 1099511627776 := by omega
      have hb2 : ni ≤ 1099511627776 := by have := hs.out; omega
      clear h1 h2
      generalize (catL ls k).length = S at *
      go_wp2
      go_round
      case rel => exact ⟨k + 1, by omega, by go_num, by rw [hs.out]⟩
      case measure => simp [intOf]; omega
    · have hkn : Hid (catL ls k = ls.flatten) := catL_all (by have := h.len; omega)
      rw [hkn.out]
      have hmk := HMK.out ls.flatten.length ht
      generalize hS : ls.flatten.length = S at *
      have HS := Lib.hid hS; clear hS
      go_wp2
      go_loopw [6, 24] (fun v i wr => ∃ k : Nat, k ≤ n ∧ i = .int .i64 (k : Int) ∧ Ob wr w.heap.size 5 v (catL ls k) ∧ Below w.heap.size w wr) (fun _ i _ => n - (intOf i).toNat)
      case atStart => exact ⟨0, Nat.zero_le _, rfl, Ob.made _ _ _ _ (Nat.le_refl _) (by omega), (Below.refl _ _).alloc (Nat.le_refl _) _⟩
      case round =>
        obtain ⟨k, hk, rfl, hob, hbel⟩ := hrel
        by_cases hlt : k < n
        · obtain ⟨b, o, Ai, ni, ci, rfl, hc, hbs, hni⟩ := (h.below hbel).at_ hlt
          have hsz : Hid ((catL ls k).length + ni ≤ 1099511627776) := by
            have h1 := hbs.len
            have h2 := HLE.out (k + 1)
            rw [catL_succ (by have := h.len; omega), List.length_append, h1] at h2
            unfold Hid; omega
          have hcat : Hid (catL ls (k + 1) = catL ls k ++ rowL ls k) := catL_succ (by have := h.len; omega)
          go_wp2_with (at_builtin; refine wpList_appendB rfl _ _ 41 rfl w.heap.size 5 i0 (.int .u8 0) Try.underlying41 hi hz0 hz1 hz2 rfl _ (catL ls k) rfl hob _ _ _ (rowL ls k) rfl hbs ?ab1 ?ab2 ?_)
          case ab1 => have := hsz.out; omega
          case ab2 => exact hbel.size
          intro v' w1 hob1 hg1 _ _
          have hbel1 := hob.grew hbel (Nat.le_refl _) hg1
          rw [← hcat.out] at hob1
          go_wp2
          go_roundw
          case rel => exact ⟨k + 1, by omega, by go_num, hob1, hbel1⟩
          case measure => simp [intOf]; omega
        · have hkn : Hid (catL ls k = ls.flatten) := catL_all (by have := h.len; omega)
          rw [hkn.out] at hob
          obtain ⟨A', c', rfl, hc', hbs'⟩ := hob.slice
          go_wp2
          go_ret
          exact ⟨A', _, c', rfl, hob, hbel⟩


/-- How many bytes two rows begin with alike. -/
def alikeL : List UInt8 → List UInt8 → Nat
  | a :: x, b :: y => if a.toNat = b.toNat then alikeL x y + 1 else 0
  | _, _ => 0
theorem alikeL_le : ∀ a b : List UInt8, alikeL a b ≤ a.length ∧ alikeL a b ≤ b.length
  | [], b => by simp [alikeL]
  | _ :: _, [] => by simp [alikeL]
  | x :: a, y :: b => by
    have := alikeL_le a b
    unfold alikeL
    split <;> simp <;> omega

/-- How many bytes r0 and all of rs begin with alike. -/
def minL (r0 : List UInt8) (rs : List (List UInt8)) : Nat := rs.foldl (fun m b => min m (alikeL r0 b)) r0.length
def commonL : List (List UInt8) → Nat
  | [] => 0
  | r0 :: rs => minL r0 rs
theorem foldl_min_le (r0 : List UInt8) : ∀ (rs : List (List UInt8)) (m : Nat), rs.foldl (fun m b => min m (alikeL r0 b)) m ≤ m
  | [], m => Nat.le_refl _
  | b :: rs, m => by
    have := foldl_min_le r0 rs (min m (alikeL r0 b))
    simp only [List.foldl_cons]; omega
theorem minL_le (r0 : List UInt8) (rs : List (List UInt8)) : minL r0 rs ≤ r0.length := foldl_min_le _ _ _
theorem minL_succ {r0 : List UInt8} {rs : List (List UInt8)} {k : Nat} (h : k < rs.length) : minL r0 (rs.take (k + 1)) = min (minL r0 (rs.take k)) (alikeL r0 (rowL rs k)) := by
  unfold minL
  rw [List.take_succ_eq_append_getElem h]
  simp only [List.foldl_append, List.foldl_cons, List.foldl_nil, rowL, List.getD, List.getElem?_eq_getElem h, Option.getD_some]
theorem alikeL_take : ∀ (a b : List UInt8) (M : Nat), M ≤ a.length → alikeL (a.take M) b = min M (alikeL a b)
  | [], b, M, h => by simp at h; subst h; simp [alikeL]
  | x :: a, [], M, h => by cases M <;> simp [alikeL]
  | x :: a, y :: b, 0, h => by simp [alikeL]
  | x :: a, y :: b, M + 1, h => by
    have := alikeL_take a b M (by simpa using h)
    simp only [List.take_succ_cons, alikeL]
    split <;> omega

theorem Bss.cut {w : World} {A : Option Addr} {n : Nat} {ls : List (List UInt8)} (h : Bss w A n ls) (i : Nat) :
    Bss w (Option.map (fun x => x.add i) A) (n - i) (ls.drop i) := by
  refine ⟨by simp [h.1], fun k x hx => ?_⟩
  rw [List.getElem?_drop] at hx
  obtain ⟨b, o, Ai, ni, ci, rfl, hc, r⟩ := h.2 _ x hx
  refine ⟨b, o + i, Ai, ni, ci, by simp [Addr.add_none], ?_, r⟩
  rw [Nat.add_assoc]; exact hc

/-- All rows are of at most N bytes. -/
def Short (N : Nat) (ls : List (List UInt8)) : Prop := ∀ k, (rowL ls k).length ≤ N
theorem Short.drop {N : Nat} {ls : List (List UInt8)} (h : Short N ls) (i : Nat) : Short N (ls.drop i) := by
  intro k
  have := h (i + k)
  simpa [rowL, List.getD, List.getElem?_drop] using this

theorem alikeL_step : ∀ (k : Nat) (a b : List UInt8), k ≤ alikeL a b → (k < alikeL a b ↔ k < a.length ∧ k < b.length ∧ nth a k = nth b k)
  | 0, [], b, _ => by simp [alikeL]
  | 0, x :: a, [], _ => by simp [alikeL]
  | 0, x :: a, y :: b, _ => by
    unfold alikeL nth
    simp only [List.getD_cons_zero, List.length_cons, Int.ofNat_inj]
    split <;> simp_all
  | k + 1, [], b, h => by simp [alikeL] at h
  | k + 1, x :: a, [], h => by simp [alikeL] at h
  | k + 1, x :: a, y :: b, h => by
    unfold alikeL at h ⊢
    split at h
    · rename_i he
      have := alikeL_step k a b (by omega)
      rw [if_pos he]
      simp only [List.length_cons, nth, List.getD_cons_succ] at this ⊢
      omega
    · omega
theorem le_minL {r0 : List UInt8} {m : Nat} : ∀ {rs : List (List UInt8)}, m ≤ minL r0 rs ↔ m ≤ r0.length ∧ ∀ b ∈ rs, m ≤ alikeL r0 b := by
  have key : ∀ (rs : List (List UInt8)) (s : Nat), m ≤ rs.foldl (fun m b => min m (alikeL r0 b)) s ↔ m ≤ s ∧ ∀ b ∈ rs, m ≤ alikeL r0 b := by
    intro rs
    induction rs with
    | nil => intro s; simp
    | cons b rs ih =>
      intro s
      simp only [List.foldl_cons, ih, List.mem_cons, forall_eq_or_imp, Nat.le_min]
      constructor
      · rintro ⟨⟨h1, h2⟩, h3⟩; exact ⟨h1, h2, h3⟩
      · rintro ⟨h1, h2, h3⟩; exact ⟨⟨h1, h2⟩, h3⟩
  intro rs
  exact key rs _

theorem rowL_mem {rs : List (List UInt8)} {k : Nat} (h : k < rs.length) : rowL rs k ∈ rs := by
  unfold rowL
  rw [List.getD_eq_getElem?_getD, List.getElem?_eq_getElem h]
  exact List.getElem_mem h

end Go.Proofs.Ytbhfaakhcnkegaa
