/-
  The law TextOfs: the text of any signs.
-/
import Derived.Test.YtoklonnajpjgjaaDoorTu
import Derived.Deep.RegionHeld3
namespace Go.Proofs.YtoklonnajpjgjaaDoor
open Go.RowKit Go.Shelf
set_option linter.unusedVariables false
set_option linter.unusedSimpArgs false
set_option maxRecDepth 4000

theorem num_has {k : Int} (hk : isK k = true) (z : Int) : hasT k (numT z).1 = hasT k z := by
  by_cases h : -2147483648 ≤ z ∧ z ≤ 2147483647
  · rw [numT_in h]
  · rw [numT_out h, hasT_neg]
    cases hz : hasT k z
    · rfl
    · have := valid_bound (hasT_valid hk hz)
      omega
theorem num_all {k : Int} (hk : isK k = true) (l : List Int) : (l.map numT).all (fun x => hasT k x.1) = l.all (hasT k) := by
  rw [List.all_map]
  congr 1
  funext z
  exact num_has hk z
theorem num_enc {k : Int} (hk : isK k = true) : ∀ (l : List Int), l.all (hasT k) = true → encR k (l.map numT) = l.flatMap (encT k)
  | [], _ => rfl
  | z :: t, h => by
    simp only [List.all_cons, Bool.and_eq_true] at h
    have hb := valid_bound (hasT_valid hk h.1)
    have ih := num_enc hk t h.2
    simp only [encR] at ih
    simp only [encR, List.map_cons, List.flatMap_cons, ih, numT_in (show -2147483648 ≤ z ∧ z ≤ 2147483647 by omega)]
theorem OfP.ofR {k : Int} {xs : List R32} {l : List Int} {w w' : World} {e : Ending} (h : OfP k xs w e w') (ha : isK k = true → xs.all (fun x => hasT k x.1) = l.all (hasT k)) (he : isK k = true → l.all (hasT k) = true → encR k xs = l.flatMap (encT k)) : OfR (ofV k l) w e w' := by
  unfold ofV
  cases hk : isK k
  · exact ⟨none, 0, 0, h.2.2.1 hk, Bs.nil _ _, Nat.le_refl _, h.2.2.2⟩
  · cases hl : l.all (hasT k)
    · exact ⟨none, 0, 0, h.2.1 hk ((ha hk).trans hl), Bs.nil _ _, Nat.le_refl _, h.2.2.2⟩
    · obtain ⟨A, n, c, e1, ob⟩ := h.1 hk ((ha hk).trans hl)
      rw [he hk hl] at ob
      exact ⟨A, n, c, e1, ob.bs.1, ob.bs.2, h.2.2.2⟩
theorem txOfR (k : Int) (A : Option Addr) (m c : Nat) (l : List Int) (w : World) (h : Zs w A m l) (hm : m ≤ 1099511) :
    Calls Tryd.prog 20 #[.int .i64 k, .slice A m c] w (OfR (ofV k l) w) :=
  (txOf k A m c l w h hm).mono fun e w' hP => hP.ofR (fun hk => num_all hk l) (fun hk ha => num_enc hk l ha)
theorem txFromR (k : Int) (s : ByteArray) (w : World) (hT : Tb w) (hm : s.size ≤ 1099511) :
    Calls Tryd.prog 22 #[.int .i64 k, .string s] w (OfR (ofV k (runesT 12 s.data.toList)) w) :=
  (txFromUtf8 k s w hT hm).mono fun e w' hP => hP.ofR (fun hk => by rw [← runesR_val, List.all_map]; rfl) (fun hk ha => encR_runes k 12 _)
theorem ofV_bad {k : Int} (hk : isK k = true) {l : List UInt8} (h : rightT 12 l = false) : ofV k (runesT 12 l) = (0, [], 6) := by
  have : (runesT 12 l).all (hasT k) = false := by
    cases ha : (runesT 12 l).all (hasT k)
    · rfl
    · have h2 : rightT 12 l = true := by
        unfold rightT
        rw [show isK 12 = true from rfl, Bool.true_and, List.all_eq_true] 
        rw [List.all_eq_true] at ha
        intro r hr
        rw [hasT12]
        exact hasT_valid hk (ha r hr)
      rw [h] at h2; cases h2
  unfold ofV; rw [hk, this]; rfl
theorem ofV_nil {k : Int} (hk : isK k = true) : ofV k [] = (k, [], 0) := by unfold ofV; rw [hk]; rfl
theorem ofV_no {k : Int} (hk : isK k = false) (l : List Int) : ofV k l = (0, [], 1) := by unfold ofV; rw [hk]; rfl
theorem below_tr {a b c : World} (h : Below a.heap.size a b) (k : Below b.heap.size b c) : Below a.heap.size a c := h.trans (Below.mono k h.size)
theorem rf6SameT (u : Int) (A B : Option Addr) (n m c d : Nat) (a : List UInt8) (w : World) (ha : Bs w A n a) (hb : Bs w B m a) :
    Calls Tryd.prog 23 #[.agg #[.int .i64 u, .slice A n c], .agg #[.int .i64 u, .slice B m d]] w fun e w' => e = .returned (.bool true) ∧ Below w.heap.size w w' :=
  (rf6Same u u A B n m c d a a w ha hb).mono (fun e w' h => by rw [decide_eq_true (rfl : (u, a) = (u, a))] at h; exact h)
theorem cutToI (A : Option Addr) (n c k : Nat) (hk : k ≤ n) (hc : n ≤ c) (W : World) : (Instr.slice 28 (.slice A n c) none (some (.int .i64 (k : Int))) none).run Tryd.prog W = .ok (.slice A k c) W := by
  go_simp
  have h1 : k ≤ c := by omega
  cases A <;> simp [sliced, h1] <;> omega

end Go.Proofs.YtoklonnajpjgjaaDoor
