/-
  The contracts of octet.Join, Common, alike, and of quittanceref01's Join, Common, Copy.
-/
import Derived.Test.YtbjiknfebocepaaDoorHex
import Derived.Test.YtbjiknfebocepaaDoorOpen
namespace Go.Proofs.YtbjiknfebocepaaDoor
open Go.RowKit
set_option linter.unusedVariables false
set_option linter.unusedSimpArgs false
set_option maxRecDepth 4000

/-- The first k rows, joined. -/
def catL (ls : List (List UInt8)) (k : Nat) : List UInt8 := (ls.take k).flatten
theorem catL_succ {ls : List (List UInt8)} {k : Nat} (h : k < ls.length) : catL ls (k + 1) = catL ls k ++ rowL ls k := by
  unfold catL
  rw [List.take_succ_eq_append_getElem h]
  simp only [List.flatten_append, List.flatten_cons, List.flatten_nil, List.append_nil, rowL, List.getD, List.getElem?_eq_getElem h, Option.getD_some]
theorem catL_all {ls : List (List UInt8)} {k : Nat} (h : ls.length ≤ k) : catL ls k = ls.flatten := by
  unfold catL; rw [List.take_of_length_le h]
theorem catL_le (ls : List (List UInt8)) (k : Nat) : (catL ls k).length ≤ ls.flatten.length := by
  unfold catL
  have : ls.flatten = (ls.take k).flatten ++ (ls.drop k).flatten := by rw [← List.flatten_append, List.take_append_drop]
  rw [this]; simp

/-- How many bytes two rows begin with alike. -/
def alikeL : List UInt8 → List UInt8 → Nat
  | a :: x, b :: y => if a.toNat = b.toNat then alikeL x y + 1 else 0
  | _, _ => 0
theorem alikeL_le : ∀ a b : List UInt8, alikeL a b ≤ a.length ∧ alikeL a b ≤ b.length
  | [], b => by simp [alikeL]
  | _ :: _, [] => by simp [alikeL]
  | x :: a, y :: b => by
    have := alikeL_le a b
    unfold alikeL
    split <;> simp <;> omega

/-- How many bytes r0 and all of rs begin with alike. -/
def minL (r0 : List UInt8) (rs : List (List UInt8)) : Nat := rs.foldl (fun m b => min m (alikeL r0 b)) r0.length
def commonL : List (List UInt8) → Nat
  | [] => 0
  | r0 :: rs => minL r0 rs
theorem foldl_min_le (r0 : List UInt8) : ∀ (rs : List (List UInt8)) (m : Nat), rs.foldl (fun m b => min m (alikeL r0 b)) m ≤ m
  | [], m => Nat.le_refl _
  | b :: rs, m => by
    have := foldl_min_le r0 rs (min m (alikeL r0 b))
    simp only [List.foldl_cons]; omega
theorem minL_le (r0 : List UInt8) (rs : List (List UInt8)) : minL r0 rs ≤ r0.length := foldl_min_le _ _ _
theorem minL_succ {r0 : List UInt8} {rs : List (List UInt8)} {k : Nat} (h : k < rs.length) : minL r0 (rs.take (k + 1)) = min (minL r0 (rs.take k)) (alikeL r0 (rowL rs k)) := by
  unfold minL
  rw [List.take_succ_eq_append_getElem h]
  simp only [List.foldl_append, List.foldl_cons, List.foldl_nil, rowL, List.getD, List.getElem?_eq_getElem h, Option.getD_some]
theorem alikeL_take : ∀ (a b : List UInt8) (M : Nat), M ≤ a.length → alikeL (a.take M) b = min M (alikeL a b)
  | [], b, M, h => by simp at h; subst h; simp [alikeL]
  | x :: a, [], M, h => by cases M <;> simp [alikeL]
  | x :: a, y :: b, 0, h => by simp [alikeL]
  | x :: a, y :: b, M + 1, h => by
    have := alikeL_take a b M (by simpa using h)
    simp only [List.take_succ_cons, alikeL]
    split <;> omega

theorem Bss.cut {w : World} {A : Option Addr} {n : Nat} {ls : List (List UInt8)} (h : Bss w A n ls) (i : Nat) :
    Bss w (Option.map (fun x => x.add i) A) (n - i) (ls.drop i) := by
  refine ⟨by simp [h.1], fun k x hx => ?_⟩
  rw [List.getElem?_drop] at hx
  obtain ⟨b, o, Ai, ni, ci, rfl, hc, r⟩ := h.2 _ x hx
  refine ⟨b, o + i, Ai, ni, ci, by simp [Addr.add_none], ?_, r⟩
  rw [Nat.add_assoc]; exact hc

/-- All rows are of at most N bytes. -/
def Short (N : Nat) (ls : List (List UInt8)) : Prop := ∀ k, (rowL ls k).length ≤ N
theorem Short.drop {N : Nat} {ls : List (List UInt8)} (h : Short N ls) (i : Nat) : Short N (ls.drop i) := by
  intro k
  have := h (i + k)
  simpa [rowL, List.getD, List.getElem?_drop] using this

theorem alikeL_step : ∀ (k : Nat) (a b : List UInt8), k ≤ alikeL a b → (k < alikeL a b ↔ k < a.length ∧ k < b.length ∧ nth a k = nth b k)
  | 0, [], b, _ => by simp [alikeL]
  | 0, x :: a, [], _ => by simp [alikeL]
  | 0, x :: a, y :: b, _ => by
    unfold alikeL nth
    simp only [List.getD_cons_zero, List.length_cons, Int.ofNat_inj]
    split <;> simp_all
  | k + 1, [], b, h => by simp [alikeL] at h
  | k + 1, x :: a, [], h => by simp [alikeL] at h
  | k + 1, x :: a, y :: b, h => by
    unfold alikeL at h ⊢
    split at h
    · rename_i he
      have := alikeL_step k a b (by omega)
      rw [if_pos he]
      simp only [List.length_cons, nth, List.getD_cons_succ] at this ⊢
      omega
    · omega
theorem le_minL {r0 : List UInt8} {m : Nat} : ∀ {rs : List (List UInt8)}, m ≤ minL r0 rs ↔ m ≤ r0.length ∧ ∀ b ∈ rs, m ≤ alikeL r0 b := by
  have key : ∀ (rs : List (List UInt8)) (s : Nat), m ≤ rs.foldl (fun m b => min m (alikeL r0 b)) s ↔ m ≤ s ∧ ∀ b ∈ rs, m ≤ alikeL r0 b := by
    intro rs
    induction rs with
    | nil => intro s; simp
    | cons b rs ih =>
      intro s
      simp only [List.foldl_cons, ih, List.mem_cons, forall_eq_or_imp, Nat.le_min]
      constructor
      · rintro ⟨⟨h1, h2⟩, h3⟩; exact ⟨h1, h2, h3⟩
      · rintro ⟨h1, h2, h3⟩; exact ⟨⟨h1, h2⟩, h3⟩
  intro rs
  exact key rs _

theorem rowL_mem {rs : List (List UInt8)} {k : Nat} (h : k < rs.length) : rowL rs k ∈ rs := by
  unfold rowL
  rw [List.getD_eq_getElem?_getD, List.getElem?_eq_getElem h]
  exact List.getElem_mem h

set_option maxHeartbeats 800000 in
theorem refCopy (A : Option Addr) (n c : Nat) (l : List UInt8) (w : World) (h : Bs w A n l) (hn : n ≤ 1099511627776) :
    Calls Tryd.prog 9 #[.slice A n c] w (NewBs w l) := by
  obtain ⟨i0, hi, hz0, hz1, hz2⟩ := info_parts u8_info
  have H := h.below (w' := w.alloc (.cells #[] 5)) ((Below.refl _ _).alloc (Nat.le_refl _) _)
  have ho : Ob (w.alloc (.cells #[] 5)) w.heap.size 5 (.slice (some ⟨w.heap.size, 0, none⟩) 0 0) [] := World.ownsRow_made w #[] 0 (Nat.le_refl _) (Nat.zero_le _) rfl
  go_enter Tryd.func9, Tryd.ntmps9
  go_wp2_with (at_builtin; refine wpList_appendB rfl _ _ 22 rfl w.heap.size 5 i0 (.int .u8 0) Tryd.underlying22 hi hz0 hz1 hz2 rfl _ [] rfl ho _ _ _ l rfl H (by simp; omega) (by simp) ?_)
  intro v' w1 hown hgrow hnil hblk
  have hb : Below w.heap.size w w1 := ((Below.refl _ w).alloc (Nat.le_refl _) _).grown hgrow (by simp) (by intro k hk; simp [Value.ownBlock] at hk; omega)
  obtain ⟨A', c', rfl, hc', hbs⟩ := Ob.slice hown
  go_wp2
  go_ret
  exact ⟨A', _, c', rfl, by simpa using hown, hb⟩

end Go.Proofs.YtbjiknfebocepaaDoor
