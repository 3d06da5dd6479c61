/-
  Plain: the row of bits of flags, as the reference's Of fills it.
-/
import Derived.Test.YtjcddbcokiaehaaBw
namespace Go.Proofs.Ytjcddbcokiaehaa
open Go.RowKit
set_option linter.unusedVariables false
set_option linter.unusedSimpArgs false

/-- The first m bits of a row of flags. -/
def indB (l : List Int) (m : Nat) : List Int := (List.range m).map fun i : Nat => ((decide ((i : Int) ∈ l)).toNat : Int)
theorem indB_len (l : List Int) (m : Nat) : (indB l m).length = m := by simp [indB]
theorem indB_zero (l : List Int) : indB l 0 = [] := rfl
theorem indB_more {l : List Int} {m : Nat} (h : ∀ z ∈ l, z < (m : Int)) : indB l (m + 1) = indB l m ++ [0] := by
  unfold indB
  rw [List.range_succ, List.map_append]
  have : ¬ (m : Int) ∈ l := fun hm => by have := h _ hm; omega
  simp [this]
theorem indB_one {l : List Int} {m : Nat} (h : ∀ z ∈ l, z < (m : Int)) : indB (l ++ [(m : Int)]) (m + 1) = indB l m ++ [1] := by
  unfold indB
  rw [List.range_succ, List.map_append]
  congr 1
  · apply List.map_congr_left
    intro i hi
    have := List.mem_range.1 hi
    have e : ((i : Int) ∈ l ++ [(m : Int)]) ↔ (i : Int) ∈ l := by
      rw [List.mem_append, List.mem_singleton]
      exact ⟨fun h => h.elim id (fun h => by omega), Or.inl⟩
    rw [decide_eq_decide.2 e]
  · simp
theorem indB_get {l : List Int} {m i : Nat} (h : i < m) : (indB l m)[i]? = some ((decide ((i : Int) ∈ l)).toNat : Int) := by
  unfold indB
  rw [List.getElem?_map, List.getElem?_range h]; rfl

/-- The first k of eight bits, as a number. -/
def prt (f : Nat → Bool) : Nat → Nat
  | 0 => 0
  | k + 1 => 2 * prt f k + (f k).toNat
theorem prt_eight (f : Nat → Bool) : prt f 8 = packN f := by
  simp only [prt, packN, pk]; omega
theorem prt_lt (f : Nat → Bool) : ∀ k, prt f k < 2 ^ k
  | 0 => by simp [prt]
  | k + 1 => by
    have := prt_lt f k
    have hb := Bool.toNat_le (f k)
    rw [prt, Nat.pow_succ]; omega
theorem prt_le {f : Nat → Bool} {k : Nat} (h : k ≤ 8) : prt f k < 256 := by
  have h1 := prt_lt f k
  have h2 : 2 ^ k ≤ 2 ^ 8 := Nat.pow_le_pow_right (by omega) h
  omega
theorem ofB_more (l : List Int) (j : Nat) : ofB l (j + 1) = ofB l j ++ [UInt8.ofNat (packN fun t => decide (((8 * j + t : Nat) : Int) ∈ l))] := by
  unfold ofB; rw [List.range_succ, List.map_append]; rfl

/-- How many bits the first k flags ask for. -/
def topF (l : List Int) (k : Nat) : Nat := if k = 0 then 0 else (zth l (k - 1)).toNat + 1
theorem topF_zero (l : List Int) : topF l 0 = 0 := rfl
theorem topF_succ (l : List Int) (k : Nat) : topF l (k + 1) = (zth l k).toNat + 1 := by simp [topF]

/-- One more flag is right. -/
theorem isFl_take {l : List Int} {k m : Nat} (hk : k < l.length) (h1 : (m : Int) ≤ zth l k) (h2 : zth l k < 32) : isFl m (l.drop k) = isFl (((zth l k).toNat + 1 : Nat) : Int) (l.drop (k + 1)) := by
  rw [List.drop_eq_getElem_cons hk]
  have e : l[k] = zth l k := by simp [zth, List.getD, List.getElem?_eq_getElem hk]
  rw [isFl, e]
  have : (((zth l k).toNat + 1 : Nat) : Int) = zth l k + 1 := by omega
  rw [this]
  simp [h1, h2]
theorem isFl_stop {l : List Int} {k m : Nat} (hk : k < l.length) (h : zth l k < m ∨ 31 < zth l k) : isFl m (l.drop k) = false := by
  rw [List.drop_eq_getElem_cons hk]
  have e : l[k] = zth l k := by simp [zth, List.getD, List.getElem?_eq_getElem hk]
  rw [isFl, e]
  rcases h with h | h
  · have : ¬ (m : Int) ≤ zth l k := by omega
    simp [this]
  · have : ¬ zth l k < 32 := by omega
    simp [this]
theorem take_one {l : List Int} {k : Nat} (hk : k < l.length) : l.take (k + 1) = l.take k ++ [zth l k] := by
  rw [List.take_succ_eq_append_getElem hk]
  simp [zth, List.getD, List.getElem?_eq_getElem hk]

theorem indB_zth {l : List Int} {m i : Nat} (h : i < m) : zth (indB l m) i = ((decide ((i : Int) ∈ l)).toNat : Int) := by
  unfold zth; rw [List.getD_eq_getElem?_getD, indB_get h]; rfl
/-- The string that the bits end in. -/
theorem ofS_top {l : List Int} (h : isFl 0 l = true) : (ofS l).1 = ((8 * ((topF l l.length + 7) / 8) : Nat) : Int) - (topF l l.length : Int) ∧ (ofS l).2 = ofB l ((topF l l.length + 7) / 8) := by
  by_cases h0 : l.length = 0
  · have : l = [] := List.eq_nil_of_length_eq_zero h0
    subst this
    exact ⟨rfl, rfl⟩
  · have hb := (isFl_mem h) _ (zth_last_mem (l := l) h0)
    unfold ofS topF
    rw [if_neg h0, if_neg h0]
    generalize zth l (l.length - 1) = z at *
    obtain ⟨zn, rfl⟩ : ∃ zn : Nat, z = (zn : Int) := ⟨z.toNat, by omega⟩
    rw [Int.toNat_natCast]
    refine ⟨?_, ?_⟩
    · show 7 - (zn : Int) % 8 = _
      omega
    · show ofB l (zn / 8 + 1) = _
      rw [show (zn + 1 + 7) / 8 = zn / 8 + 1 by omega]
theorem Blk.grown {w w' : World} {g : Nat} {t : TypeId} {cs : List Value} {row : Option Nat} (h : Blk w g t cs) (hg : w.grownBy w' row) (hne : some g ≠ row) : Blk w' g t cs := (hg.block g h.lt hne).trans h
theorem rows_ne {w : World} {B B' n n' k k' : Nat} {e e' : TypeId} {v v' : Value} {l l' : List Value} (h : w.ownsRow B e n v k l) (h' : w.ownsRow B' e' n' v' k' l') (hne : e ≠ e') : v.ownBlock = none ∨ v.ownBlock ≠ v'.ownBlock := by
  rcases h.2 with ⟨rfl, _⟩ | ⟨g, cap, cur, rfl, _, hh, _⟩
  · exact .inl rfl
  · refine .inr fun he => ?_
    rcases h'.2 with ⟨rfl, _⟩ | ⟨g', cap', cur', rfl, _, hh', _⟩
    · simp [Value.ownBlock] at he
    · simp [Value.ownBlock] at he
      subst he
      rw [hh] at hh'
      simp at hh'
      exact hne hh'.2

end Go.Proofs.Ytjcddbcokiaehaa
