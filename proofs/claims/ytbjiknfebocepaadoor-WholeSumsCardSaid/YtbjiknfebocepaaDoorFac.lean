/-
  A region that leaves its order open, by a fact of each operation that has been done: each yields a value and makes memory only; what must wait for all of them comes behind.
-/
import Derived.Test.YtbjiknfebocepaaDoorInv
namespace Go.Proofs.YtbjiknfebocepaaDoor
open Go.RowKit
set_option linter.unusedVariables false
set_option linter.unusedSimpArgs false
set_option maxRecDepth 4000

section
variable {P : Program} {ops : Array Oper} {Q : Exit → Act → World → Prop}

def closedB (ops : Array Oper) (L : List Bool) : Bool :=
  (List.range L.length).all fun i => !(L.getD i false) || match ops[i]? with
    | some o => o.after.all fun e => !(Region.binds .any e) || (!(decide (e.on < L.length)) || L.getD e.on false)
    | none => true
/-- Whatever has been done of the first ones, there is one to be done, and it is one of them, till all are done. -/
def goesB (ops : Array Oper) (N : Nat) (L : List Bool) : Bool :=
  !(closedB ops L) || (L.all id || (!(Region.ready .any ops (L ++ List.replicate N false).toArray).isEmpty && (Region.ready .any ops (L ++ List.replicate N false).toArray).all fun i => decide (i < L.length)))
def everyL : Nat → (List Bool → Bool) → Bool
  | 0, p => p []
  | k + 1, p => everyL k (fun L => p (true :: L)) && everyL k (fun L => p (false :: L))
theorem everyL_at : ∀ (k : Nat) (p : List Bool → Bool), everyL k p = true → ∀ L : List Bool, L.length = k → p L = true
  | 0, p, h, L, hl => by
    have : L = [] := List.eq_nil_of_length_eq_zero hl
    subst this; exact h
  | k + 1, p, h, [], hl => by simp at hl
  | k + 1, p, h, b :: L, hl => by
    simp only [everyL, Bool.and_eq_true] at h
    have hl' : L.length = k := by simpa using hl
    cases b
    · exact everyL_at k _ h.2 L hl'
    · exact everyL_at k _ h.1 L hl'

theorem wpAny_one {fuel : Nat} {L : Array Bool} {a : Act} {w : World} (i : Nat) (hr : Region.ready .any ops L = [i])
    (h : wpOp P ops Q i (fun a' w' => wpAny P .any ops Q fuel (L.setIfInBounds i true) a' w') a w) : wpAny P .any ops Q (fuel + 1) L a w := by
  refine ⟨fun e => (by rw [hr] at e; cases e), fun j hj => ?_⟩
  rw [hr] at hj
  have : j = i := by simpa using hj
  subst this
  exact h
theorem wpAny_end {L : Array Bool} {a : Act} {w : World} (hr : Region.ready .any ops L = []) (h : Q .normal a w) : wpAny P .any ops Q 0 L a w := ⟨hr, h⟩

theorem wp_region_facts {rid : Nat} {a0 : Act} {w0 : World} (n N : Nat) (D : Nat → Nat)
    (F : Nat → Value → World → Prop) (G : Nat → Nat → Value → Value → Prop) (hm : P.follows .mixedOrders = true)
    (hsz : ops.size = n + N) (hD : ∀ i j, i < n → j < n → D i = D j → i = j)
    (hgo : everyL n (goesB ops N) = true)
    (keep : ∀ i v w w', i < n → F i v w → Below w.heap.size w w' → F i v w')
    (step : ∀ (i : Nat) (f : Nat → Option Value) (w : World), i < n → Below w0.heap.size w0 w →
      (∀ d, (∀ i, i < n → d ≠ D i) → f d = none) →
      (∀ o, ops[i]? = some o → ∀ e ∈ o.after, Region.binds .any e = true → e.on < n → ∃ v, f (D e.on) = some v ∧ F e.on v w) →
      wpOp P ops Q i (fun a' w' => ∃ v, a' = ⟨upd a0.tmps (fset f (D i) v), a0.defers⟩ ∧ F i v w' ∧ Below w.heap.size w w' ∧ ∀ j u, j < n → j ≠ i → f (D j) = some u → F j u w → G i j v u ∧ G j i u v) ⟨upd a0.tmps f, a0.defers⟩ w)
    (fin : ∀ (f : Nat → Option Value) (w : World), Below w0.heap.size w0 w → (∀ d, (∀ i, i < n → d ≠ D i) → f d = none) → (∀ i, i < n → ∃ v, f (D i) = some v ∧ F i v w) →
      (∀ i j u v, i < n → j < n → i ≠ j → f (D i) = some u → f (D j) = some v → G i j u v) →
      wpAny P .any ops Q N (List.replicate n true ++ List.replicate N false).toArray ⟨upd a0.tmps f, a0.defers⟩ w) :
    (Code.region rid ops true).wp P Q a0 w0 := by
  have key : ∀ (m : Nat) (L : List Bool) (f : Nat → Option Value) (w : World), L.length = n → left L = m → closedB ops L = true → Below w0.heap.size w0 w →
      (∀ d, (∀ i, i < n → d ≠ D i) → f d = none) → (∀ i, i < n → L.getD i false = true → ∃ v, f (D i) = some v ∧ F i v w) →
      (∀ i, i < n → L.getD i false = false → f (D i) = none) →
      (∀ i j u v, i < n → j < n → i ≠ j → f (D i) = some u → f (D j) = some v → G i j u v) →
      wpAny P .any ops Q (N + m) (L ++ List.replicate N false).toArray ⟨upd a0.tmps f, a0.defers⟩ w := by
    intro m
    induction m with
    | zero =>
      intro L f w hl hm0 hcl hB hrest hhas hnot hG
      have hall : ∀ i, i < n → L.getD i false = true := by
        intro i hi
        have := left_zero hm0 i
        rw [Array.getD_eq_getD_getElem?, List.getElem?_toArray, List.getElem?_eq_getElem (by omega)] at this
        rw [List.getD_eq_getElem?_getD, List.getElem?_eq_getElem (by omega)]
        simpa using this
      have hL : L = List.replicate n true := by
        apply List.ext_getElem
        · simp [hl]
        · intro i h1 h2
          have := hall i (by omega)
          rw [List.getD_eq_getElem?_getD, List.getElem?_eq_getElem h1] at this
          simpa using this
      rw [hL]
      exact fin f w hB hrest (fun i hi => hhas i hi (hall i hi)) hG
    | succ m ih =>
      intro L f w hl hm1 hcl hB hrest hhas hnot hG
      have hg := everyL_at n _ hgo L hl
      unfold goesB at hg
      rw [hcl] at hg
      simp only [Bool.not_true, Bool.false_or, Bool.or_eq_true, Bool.and_eq_true] at hg
      have hnall : L.all id = false := by
        cases h : L.all id
        · rfl
        · exfalso
          rw [List.all_eq_true] at h
          unfold left at hm1
          have : L.countP (· == false) = 0 := by
            rw [List.countP_eq_zero]
            intro b hb
            have := h b hb
            simp at this
            simp [this]
          omega
      rw [hnall] at hg
      obtain ⟨hne, hlt⟩ : (!(Region.ready .any ops (L ++ List.replicate N false).toArray).isEmpty) = true ∧ ((Region.ready .any ops (L ++ List.replicate N false).toArray).all fun i => decide (i < L.length)) = true := by
        rcases hg with h | h
        · cases h
        · exact h
      rw [List.all_eq_true] at hlt
      refine ⟨fun e => (by rw [e] at hne; cases hne), fun i hi => ?_⟩
      have hin : i < n := by have := hlt i hi; simp at this; omega
      obtain ⟨hun, o, ho, hall⟩ := mem_ready.1 hi
      have hLi : L.getD i false = false := by
        rw [Array.getD_eq_getD_getElem?, List.getElem?_toArray, List.getElem?_append_left (by omega), List.getElem?_eq_getElem (by omega)] at hun
        rw [List.getD_eq_getElem?_getD, List.getElem?_eq_getElem (by omega)]
        exact hun
      have hdep : ∀ e ∈ o.after, Region.binds .any e = true → e.on < n → L.getD e.on false = true := by
        intro e he hb hen
        have := hall e he hb
        rw [Array.getD_eq_getD_getElem?, List.getElem?_toArray, List.getElem?_append_left (by omega)] at this
        rw [List.getD_eq_getElem?_getD]; exact this
      have hst := step i f w hin hB hrest (fun o' ho' e he hb hen => by
        rw [ho] at ho'; cases ho'
        exact hhas _ hen (hdep e he hb hen))
      refine wpOp_mono (fun a' w' h' => ?_) hst
      obtain ⟨v, rfl, hF, hbel, hGn⟩ := h'
      have e1 : (L ++ List.replicate N false).toArray.setIfInBounds i true = (L.set i true ++ List.replicate N false).toArray := by
        rw [List.setIfInBounds_toArray, List.set_append_left _ _ (by omega)]
      rw [e1]
      have hB' : Below w0.heap.size w0 w' := hB.trans (Below.mono hbel hB.size)
      have hget : ∀ j, (L.set i true).getD j false = if j = i then true else L.getD j false := by
        intro j
        rw [List.getD_eq_getElem?_getD, List.getD_eq_getElem?_getD, List.getElem?_set]
        by_cases hj : j = i
        · subst hj; rw [if_pos rfl, if_pos (by omega), if_pos rfl]; rfl
        · rw [if_neg (fun e => hj e.symm), if_neg hj]
      refine ih (L.set i true) (fset f (D i) v) w' (by simp [hl]) ?_ ?_ hB' ?_ ?_ ?_ ?_
      · have hb : L[i]'(by omega) = false := by
          rw [List.getD_eq_getElem?_getD, List.getElem?_eq_getElem (by omega)] at hLi
          exact hLi
        have hpos : 0 < L.countP (· == false) := List.countP_pos_iff.2 ⟨L[i]'(by omega), List.getElem_mem _, by rw [hb]; rfl⟩
        unfold left at hm1 ⊢
        rw [List.countP_set (by omega), hb, if_pos (by rfl), if_neg (by simp)]
        omega
      · unfold closedB at hcl ⊢
        rw [List.all_eq_true] at hcl ⊢
        intro j hj
        rw [List.length_set] at hj ⊢
        have h1 := hcl j hj
        rw [hget]
        by_cases hji : j = i
        · subst hji
          rw [if_pos rfl, ho]
          simp only [Bool.not_true, Bool.false_or, Array.all_eq_true_iff_forall_mem]
          intro e he
          cases hb : Region.binds .any e
          · rfl
          · by_cases hen : e.on < L.length
            · have := hdep e he hb (by omega)
              rw [hget]
              simp only [Bool.not_true, Bool.false_or, decide_eq_true hen]
              split
              · rfl
              · exact this
            · simp [hen]
        · rw [if_neg hji]
          cases hLj : L.getD j false
          · rfl
          · rw [hLj] at h1
            simp only [Bool.not_true, Bool.false_or] at h1 ⊢
            cases hoj : ops[j]? with
            | none => rfl
            | some oj =>
              rw [hoj] at h1
              simp only [Array.all_eq_true_iff_forall_mem] at h1 ⊢
              intro e he
              have := h1 e he
              rw [hget]
              split
              · simp
              · exact this
      · intro d hd
        rw [fset_other _ _ (hd i hin)]
        exact hrest d hd
      · intro j hj hLj
        by_cases hji : j = i
        · subst hji
          exact ⟨v, fset_same _ _ _, hF⟩
        · rw [hget, if_neg hji] at hLj
          obtain ⟨u, hu, hFu⟩ := hhas j hj hLj
          exact ⟨u, by rw [fset_other _ _ (fun e => hji (hD _ _ hj hin e))]; exact hu, keep j u w w' hj hFu hbel⟩
      · intro j hj hLj
        by_cases hji : j = i
        · subst hji
          rw [hget, if_pos rfl] at hLj
          cases hLj
        · rw [hget, if_neg hji] at hLj
          rw [fset_other _ _ (fun e => hji (hD _ _ hj hin e))]
          exact hnot j hj hLj
      · intro j k u x hj hk hjk hu hx
        have hFof : ∀ j u, j < n → f (D j) = some u → F j u w := by
          intro j u hj hu
          cases hLj : L.getD j false
          · rw [hnot j hj hLj] at hu; cases hu
          · obtain ⟨u', hu', hFu⟩ := hhas j hj hLj
            rw [hu] at hu'; cases hu'
            exact hFu
        by_cases hji : j = i
        · subst hji
          rw [fset_same] at hu
          cases hu
          rw [fset_other _ _ (fun e => hjk (hD _ _ hk hin e).symm)] at hx
          exact (hGn k x hk (fun e => hjk e.symm) hx (hFof k x hk hx)).1
        · rw [fset_other _ _ (fun e => hji (hD _ _ hj hin e))] at hu
          by_cases hki : k = i
          · subst hki
            rw [fset_same] at hx
            cases hx
            exact (hGn j u hj hji hu (hFof j u hj hu)).2
          · rw [fset_other _ _ (fun e => hki (hD _ _ hk hin e))] at hx
            exact hG j k u x hj hk hjk hu hx
  refine wp_region_any hm ?_
  have hrep : List.replicate n false ++ List.replicate N false = List.replicate ops.size false := by rw [hsz, List.replicate_append_replicate]
  have hlen : left (List.replicate n false) = n := by unfold left; rw [List.countP_replicate]; simp
  have hcl : closedB ops (List.replicate n false) = true := by
    unfold closedB
    rw [List.all_eq_true]
    intro i hi
    rw [List.length_replicate, List.mem_range] at hi
    have : (List.replicate n false).getD i false = false := by
      rw [List.getD_eq_getElem?_getD]
      rcases h : (List.replicate n false)[i]? with _ | b
      · rfl
      · have := List.mem_of_getElem? h
        simp at this
        simp [this]
    rw [this]; rfl
  have hno : ∀ i, i < n → (List.replicate n false).getD i false = true → ∃ v, (fun _ => none : Nat → Option Value) (D i) = some v ∧ F i v w0.drew := by
    intro i hi h
    exfalso
    rw [List.getD_eq_getElem?_getD] at h
    rcases h' : (List.replicate n false)[i]? with _ | b
    · rw [h'] at h; cases h
    · have := List.mem_of_getElem? h'
      rw [h'] at h
      simp at this h
      rw [this.2] at h; cases h
  have := key n (List.replicate n false) (fun _ => none) w0.drew (by simp) hlen hcl (Below.refl _ _).drew (fun _ _ => rfl) hno (fun _ _ _ => rfl) (fun i j u v _ _ _ hu _ => by cases hu)
  rw [upd_none, hrep, Nat.add_comm N n, ← hsz] at this
  simpa using this
end
end Go.Proofs.YtbjiknfebocepaaDoor
