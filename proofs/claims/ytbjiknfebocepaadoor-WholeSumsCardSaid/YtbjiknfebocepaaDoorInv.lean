/-
  A region that leaves its order open, by an invariant of what has been done.
-/
import Derived.Test.YtbjiknfebocepaaDoorBase
import Derived.Orders
import Derived.RegionTactic
namespace Go.Proofs.YtbjiknfebocepaaDoor
open Go.RowKit
set_option linter.unusedVariables false
set_option linter.unusedSimpArgs false
set_option maxRecDepth 4000

section
variable {P : Program} {ops : Array Oper} {Q : Exit → Act → World → Prop} {md : Region.Mode}

def left (L : List Bool) : Nat := L.countP (· == false)

theorem left_zero {L : List Bool} (h : left L = 0) (i : Nat) : L.toArray.getD i true = true := by
  unfold left at h
  rw [List.countP_eq_zero] at h
  rw [Array.getD_eq_getD_getElem?, List.getElem?_toArray]
  rcases hi : L[i]? with _ | b
  · rfl
  · have := h b (List.mem_of_getElem? hi)
    simpa using this

theorem left_set {L : List Bool} {i : Nat} (h : L.toArray.getD i true = false) : left (L.set i true) < left L := by
  have hi : i < L.length := by
    rcases Nat.lt_or_ge i L.length with h' | h'
    · exact h'
    · rw [Array.getD_eq_getD_getElem?, List.getElem?_toArray, List.getElem?_eq_none h'] at h; cases h
  have hb : L[i] = false := by
    rw [Array.getD_eq_getD_getElem?, List.getElem?_toArray, List.getElem?_eq_getElem hi] at h
    exact h
  have hpos : 0 < L.countP (· == false) := List.countP_pos_iff.2 ⟨L[i], List.getElem_mem hi, by rw [hb]; rfl⟩
  unfold left
  rw [List.countP_set hi, hb, if_pos (by rfl), if_neg (by simp)]
  omega

theorem wpAny_inv (Inv : List Bool → Act → World → Prop)
    (step : ∀ (L : List Bool) (a : Act) (w : World) (i : Nat), i ∈ Region.ready md ops L.toArray → Inv L a w → wpOp P ops Q i (Inv (L.set i true)) a w)
    (fin : ∀ (L : List Bool) (a : Act) (w : World), Region.ready md ops L.toArray = [] → Inv L a w → Q .normal a w) :
    ∀ (fuel : Nat) (L : List Bool) (a : Act) (w : World), left L ≤ fuel → Inv L a w → wpAny P md ops Q fuel L.toArray a w := by
  intro fuel
  induction fuel with
  | zero =>
    intro L a w hl hI
    have hz := left_zero (show left L = 0 by omega)
    have hr : Region.ready md ops L.toArray = [] := by
      unfold Region.ready
      rw [List.filter_eq_nil_iff]
      intro i _
      rw [hz i]
      simp
    exact ⟨hr, fin L a w hr hI⟩
  | succ fuel ih =>
    intro L a w hl hI
    refine ⟨fun hr => fin L a w hr hI, fun i hi => ?_⟩
    refine wpOp_mono (fun a' w' h' => ?_) (step L a w i hi hI)
    have hs := left_set (mem_ready.1 hi).1
    have := ih (L.set i true) a' w' (by omega) h'
    rw [← List.setIfInBounds_toArray] at this
    exact this

theorem wp_region_inv (Inv : List Bool → Act → World → Prop) {id : Nat} {a : Act} {w : World} (hm : P.follows .mixedOrders = true)
    (h0 : Inv (List.replicate ops.size false) a w.drew)
    (step : ∀ (L : List Bool) (a : Act) (w : World) (i : Nat), i ∈ Region.ready .any ops L.toArray → Inv L a w → wpOp P ops Q i (Inv (L.set i true)) a w)
    (fin : ∀ (L : List Bool) (a : Act) (w : World), Region.ready .any ops L.toArray = [] → Inv L a w → Q .normal a w) : (Code.region id ops true).wp P Q a w := by
  refine wp_region_any hm ?_
  have := wpAny_inv (P := P) (ops := ops) (Q := Q) (md := .any) Inv step fin ops.size (List.replicate ops.size false) a w.drew (by
    unfold left
    exact Nat.le_trans (List.countP_le_length) (by simp)) h0
  simpa using this
end

/-- The slots t, but those that f gives. -/
def upd (t : Array Value) (f : Nat → Option Value) : Array Value := (t.toList.mapIdx fun i x => (f i).getD x).toArray
def fset (f : Nat → Option Value) (d : Nat) (v : Value) : Nat → Option Value := fun i => if i = d then some v else f i
theorem fset_same (f : Nat → Option Value) (d : Nat) (v : Value) : fset f d v d = some v := by simp [fset]
theorem fset_other (f : Nat → Option Value) {d i : Nat} (v : Value) (h : i ≠ d) : fset f d v i = f i := by simp [fset, h]
theorem upd_none (t : Array Value) : upd t (fun _ => none) = t := by
  unfold upd
  apply Array.ext'
  apply List.ext_getElem?
  intro i
  simp
theorem upd_set (t : Array Value) (f : Nat → Option Value) (d : Nat) (v : Value) : (upd t f).setIfInBounds d v = upd t (fset f d v) := by
  unfold upd
  rw [List.setIfInBounds_toArray]
  congr 1
  apply List.ext_getElem?
  intro i
  rw [List.getElem?_set, List.getElem?_mapIdx, List.getElem?_mapIdx]
  by_cases h : d = i
  · subst h
    simp only [List.length_mapIdx, Array.length_toList, if_true]
    by_cases hd : d < t.size
    · simp [hd, fset]
    · simp [hd, fset]
  · rw [if_neg h]
    have : fset f d v i = f i := fset_other f v (fun e => h e.symm)
    rw [this]
theorem upd_get (t : Array Value) (f : Nat → Option Value) (d : Nat) (v : Value) (hd : d < t.size) (h : f d = some v) : (upd t f).getD d undef = v := by
  unfold upd
  rw [Array.getD_eq_getD_getElem?, List.getElem?_toArray, List.getElem?_mapIdx]
  have : t.toList[d]? = some t[d] := by simp [hd]
  rw [this]
  simp [h]
theorem upd_old (t : Array Value) (f : Nat → Option Value) (d : Nat) (h : f d = none) : (upd t f).getD d undef = t.getD d undef := by
  unfold upd
  rw [Array.getD_eq_getD_getElem?, Array.getD_eq_getD_getElem?, List.getElem?_toArray, List.getElem?_mapIdx, h]
  simp

/-- An act that is named for a while. -/
theorem wp_name {P : Program} {c : Code} {Q : Exit → Act → World → Prop} {a : Act} {w : World} (h : ∀ a0, Hid (a0 = a) → Code.wp P c Q a0 w) : Code.wp P c Q a w := h a rfl

theorem wpOp_of {P : Program} {ops : Array Oper} {Q : Exit → Act → World → Prop} {K : Act → World → Prop} {a : Act} {w : World} {i : Nat} {o : Oper} (hi : ops[i]? = some o) (hg : o.guard = none) (h : o.wp P a w K Q) : wpOp P ops Q i K a w := by
  unfold wpOp
  rw [hi]
  simp only [Region.wanted, hg]
  exact .inl h

theorem dep_of {ops : Array Oper} {md : Region.Mode} {L : List Bool} {i : Nat} {o : Oper} (hi : i ∈ Region.ready md ops L.toArray) (ho : ops[i]? = some o) (e : Edge) (he : e ∈ o.after) (hb : Region.binds md e = true) : L.toArray.getD e.on false = true := by
  obtain ⟨_, o', ho', h⟩ := mem_ready.1 hi
  rw [ho] at ho'
  cases ho'
  exact h e he hb
theorem ready_lt {ops : Array Oper} {md : Region.Mode} {L : List Bool} {i : Nat} (hi : i ∈ Region.ready md ops L.toArray) : i < ops.size := by
  obtain ⟨_, o, ho, _⟩ := mem_ready.1 hi
  exact (Array.getElem?_eq_some_iff.1 ho).1
theorem ready_not {ops : Array Oper} {md : Region.Mode} {L : List Bool} {i : Nat} (hi : i ∈ Region.ready md ops L.toArray) : L.toArray.getD i true = false := (mem_ready.1 hi).1

end Go.Proofs.YtbjiknfebocepaaDoor
