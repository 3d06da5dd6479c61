/-
  The wholes of any bytes: the plain functions, and build's next, Wholes.
-/
import Derived.Test.YtbhfaakhcnkegaaHdWrapB
import Derived.Test.YtbhfaakhcnkegaaHdOpen
import Derived.Test.YtbhfaakhcnkegaaBlk
import Derived.Test.YtbhfaakhcnkegaaVal
namespace Go.Proofs.Ytbhfaakhcnkegaa
open Go.RowKit
set_option linter.unusedVariables false
set_option linter.unusedSimpArgs false
set_option maxRecDepth 4000

/-- The next whole at place k: its bytes, the place behind it, the error's number. -/
def nx (l : List UInt8) (k : Nat) : List UInt8 × Nat × Int :=
  if (rHead l k).2.2.2 ≠ 0 then ([], k, (rHead l k).2.2.2)
  else if l.length < (rHead l k).2.2.1 + (rHead l k).2.1.toNat then ([], k, 3)
  else ((l.drop k).take ((rHead l k).2.2.1 + (rHead l k).2.1.toNat - k), (rHead l k).2.2.1 + (rHead l k).2.1.toNat, 0)

theorem tagB_pos (t : Tg) : tagB t ≠ [] := by
  obtain ⟨c, n, m⟩ := t
  by_cases h0 : n < 31
  · rw [tagB0 _ _ _ h0]; simp
  by_cases h1 : n < 128
  · rw [tagB1 _ _ _ (by omega) h1]; simp
  by_cases h2 : n < 16384
  · rw [tagB2 _ _ _ (by omega) h2]; simp
  · rw [tagB3 _ _ _ (by omega)]; simp

theorem rHead_gt (l : List UInt8) (k : Nat) (h : (rHead l k).2.2.2 = 0) : k < (rHead l k).2.2.1 := by
  unfold rHead at h ⊢
  split at h
  · rename_i ht
    rw [if_pos ht]
    split at h
    · rename_i hl
      rw [if_pos hl]
      have h1 := (rTag_back l k ht).2
      have h2 := rLen_ge l (rTag l k).2.1
      have h3 : k < (rTag l k).2.1 := by
        rcases Nat.lt_or_ge k (rTag l k).2.1 with h | h
        · exact h
        · rw [Nat.sub_eq_zero_of_le h, List.take_zero] at h1
          exact absurd h1.symm (tagB_pos _)
      show k < (rLen l (rTag l k).2.1).2.1
      omega
    · rename_i hl; exact absurd h hl
  · rename_i ht; exact absurd h ht

theorem nx_ok (l : List UInt8) (k : Nat) (h : (nx l k).2.2 = 0) :
    (rHead l k).2.2.2 = 0 ∧ (rHead l k).2.2.1 + (rHead l k).2.1.toNat ≤ l.length ∧ k < (rHead l k).2.2.1 ∧ 0 ≤ (rHead l k).2.1 ∧ (rHead l k).2.1 ≤ 16777216 ∧
      (nx l k).2.1 = (rHead l k).2.2.1 + (rHead l k).2.1.toNat ∧ (nx l k).1 = (l.drop k).take ((rHead l k).2.2.1 + (rHead l k).2.1.toNat - k) := by
  unfold nx at h ⊢
  split at h
  · rename_i hne; exact absurd h hne
  · rename_i hne
    have h0 : (rHead l k).2.2.2 = 0 := by simpa using hne
    split at h
    · simp at h
    · rename_i hlt
      have h1 := rHead_ok l k h0
      refine ⟨h0, by omega, rHead_gt l k h0, h1.1, h1.2.1, ?_, ?_⟩
      · rw [if_neg hne, if_neg hlt]
      · rw [if_neg hne, if_neg hlt]
theorem nx_no (l : List UInt8) (k : Nat) (h : (nx l k).2.2 ≠ 0) :
    ((rHead l k).2.2.2 ≠ 0 ∧ (nx l k).2.2 = (rHead l k).2.2.2) ∨
    ((rHead l k).2.2.2 = 0 ∧ l.length < (rHead l k).2.2.1 + (rHead l k).2.1.toNat ∧ k < (rHead l k).2.2.1 ∧ (rHead l k).2.2.1 ≤ l.length ∧ 0 ≤ (rHead l k).2.1 ∧ (rHead l k).2.1 ≤ 16777216 ∧ (nx l k).2.2 = 3) := by
  unfold nx at h ⊢
  split at h
  · rename_i hne
    exact .inl ⟨hne, by rw [if_pos hne]⟩
  · rename_i hne
    have h0 : (rHead l k).2.2.2 = 0 := by simpa using hne
    split at h
    · rename_i hlt
      have h1 := rHead_ok l k h0
      exact .inr ⟨h0, hlt, rHead_gt l k h0, h1.2.2, h1.1, h1.2.1, by rw [if_neg hne, if_pos hlt]⟩
    · simp at h

/-- All wholes from place k on, or the error's number. -/
def whs (l : List UInt8) (k : Nat) : List (List UInt8) × Int :=
  if l.length ≤ k then ([], 0)
  else if (nx l k).2.2 ≠ 0 then ([], (nx l k).2.2)
  else if (nx l k).2.1 ≤ k then ([], 3)
  else if (whs l (nx l k).2.1).2 ≠ 0 then ([], (whs l (nx l k).2.1).2)
  else ((nx l k).1 :: (whs l (nx l k).2.1).1, 0)
termination_by l.length - k

theorem whs_end (l : List UInt8) (k : Nat) (h : l.length ≤ k) : whs l k = ([], 0) := by rw [whs, if_pos h]
theorem whs_err (l : List UInt8) (k : Nat) (h : k < l.length) (h1 : (nx l k).2.2 ≠ 0) : whs l k = ([], (nx l k).2.2) := by rw [whs, if_neg (by omega), if_pos h1]
theorem whs_step (l : List UInt8) (k : Nat) (h : k < l.length) (h1 : (nx l k).2.2 = 0) :
    whs l k = if (whs l (nx l k).2.1).2 ≠ 0 then ([], (whs l (nx l k).2.1).2) else ((nx l k).1 :: (whs l (nx l k).2.1).1, 0) := by
  have h2 := nx_ok l k h1
  rw [whs, if_neg (by omega), if_neg (by simpa using h1), if_neg (by omega)]

/-- What was read so far, and what is still to be read. -/
def whs2 (acc : List (List UInt8)) (r : List (List UInt8) × Int) : List (List UInt8) × Int := if r.2 ≠ 0 then ([], r.2) else (acc ++ r.1, 0)
theorem whs_no (l : List UInt8) (k : Nat) (h : (whs l k).2 ≠ 0) : (whs l k).1 = [] := by
  rcases Nat.lt_or_ge k l.length with h0 | h0
  · by_cases h1 : (nx l k).2.2 = 0
    · rw [whs_step l k h0 h1] at h ⊢
      by_cases h3 : (whs l (nx l k).2.1).2 ≠ 0
      · rw [if_pos h3]
      · rw [if_neg h3] at h; simp at h
    · rw [whs_err l k h0 h1]
  · rw [whs_end l k h0]
theorem whs2_nil (l : List UInt8) (k : Nat) : whs2 [] (whs l k) = whs l k := by
  unfold whs2
  by_cases h : (whs l k).2 ≠ 0
  · rw [if_pos h]; exact (Prod.ext (whs_no l k h) rfl : whs l k = ([], (whs l k).2)).symm
  · rw [if_neg h, List.nil_append]
    simp at h
    exact (Prod.ext rfl h : whs l k = ((whs l k).1, 0)).symm
theorem whs2_step (acc : List (List UInt8)) (l : List UInt8) (k : Nat) (h : k < l.length) (h1 : (nx l k).2.2 = 0) :
    whs2 acc (whs l k) = whs2 (acc ++ [(nx l k).1]) (whs l (nx l k).2.1) := by
  rw [whs_step l k h h1]
  unfold whs2
  by_cases h3 : (whs l (nx l k).2.1).2 ≠ 0
  · rw [if_pos h3, if_pos h3, if_pos h3]
  · rw [if_neg h3, if_neg h3]; simp
theorem whs_short (l : List UInt8) : ∀ (n k : Nat), l.length - k ≤ n → ∀ b ∈ (whs l k).1, b.length ≤ l.length := by
  intro n
  induction n with
  | zero => intro k hk; rw [whs_end l k (by omega)]; simp
  | succ n ih =>
    intro k hk
    rcases Nat.lt_or_ge k l.length with h | h
    · by_cases h1 : (nx l k).2.2 = 0
      · rw [whs_step l k h h1]
        have h2 := nx_ok l k h1
        split
        · simp
        · intro b hb
          simp at hb
          rcases hb with rfl | hb
          · rw [h2.2.2.2.2.2.2]; simp; omega
          · exact ih _ (by omega) b hb
      · rw [whs_err l k h h1]; simp
    · rw [whs_end l k h]; simp
theorem whs_count (l : List UInt8) : ∀ (n k : Nat), l.length - k ≤ n → (whs l k).1.length ≤ n := by
  intro n
  induction n with
  | zero => intro k hk; rw [whs_end l k (by omega)]; simp
  | succ n ih =>
    intro k hk
    rcases Nat.lt_or_ge k l.length with h | h
    · by_cases h1 : (nx l k).2.2 = 0
      · rw [whs_step l k h h1]
        have h2 := nx_ok l k h1
        split
        · simp
        · have := ih (nx l k).2.1 (by omega)
          simp; omega
      · rw [whs_err l k h h1]; simp
    · rw [whs_end l k h]; simp

/-! ### rows of rows that the call itself made -/

/-- The slices vs are rows of bytes of the call's own. -/
def Oss (w : World) (B : Nat) (vs : List Value) (ls : List (List UInt8)) : Prop :=
  vs.length = ls.length ∧ ∀ (i : Nat) (l : List UInt8), ls[i]? = some l → ∃ v, vs[i]? = some v ∧ Ob w B 5 v l
theorem Oss.nil (w : World) (B : Nat) : Oss w B [] [] := ⟨rfl, fun i l h => by simp at h⟩
theorem Oss.vss {w : World} {B : Nat} {vs : List Value} {ls : List (List UInt8)} (h : Oss w B vs ls) : Vss w vs ls :=
  ⟨h.1, fun i l hl => by
    obtain ⟨v, hv, ho⟩ := h.2 i l hl
    obtain ⟨A, c, rfl, hc, hb⟩ := ho.slice
    exact ⟨A, l.length, c, hv, hb, hc⟩⟩
theorem Oss.keep {w w' : World} {B : Nat} {vs : List Value} {ls : List (List UInt8)} (h : Oss w B vs ls) (hk : ∀ v l, Ob w B 5 v l → Ob w' B 5 v l) : Oss w' B vs ls :=
  ⟨h.1, fun i l hl => let ⟨v, e, hb⟩ := h.2 i l hl; ⟨v, e, hk _ _ hb⟩⟩
theorem Oss.below {w w' : World} {B : Nat} {vs : List Value} {ls : List (List UInt8)} (h : Oss w B vs ls) (hb : Below w.heap.size w w') : Oss w' B vs ls := h.keep fun _ _ ho => ho.below hb
theorem Ob.notBlk {w : World} {B g : Nat} {te t2 : TypeId} {v : Value} {l : List UInt8} {cs : Array Value} {f : Nat × Nat} (h : Ob w B te v l) (hg : w.heap[g]? = some (.cells cs t2 f)) (hne : t2 ≠ te) : v.ownBlock = none ∨ v.ownBlock ≠ some g := by
  rcases h.2 with ⟨rfl, _⟩ | ⟨g', cap, cur, rfl, _, hh, _⟩
  · exact .inl rfl
  · right
    intro e
    simp [Value.ownBlock] at e
    subst e
    rw [hg] at hh
    simp at hh
    exact hne hh.2.1
theorem Ob.notRow {w : World} {B B2 k size : Nat} {te t2 : TypeId} {v u : Value} {l : List UInt8} {xs : List Value} (h : Ob w B te v l) (ho : w.ownsRow B2 t2 size u k xs) (hne : t2 ≠ te) : v.ownBlock = none ∨ v.ownBlock ≠ u.ownBlock := by
  rcases ho.2 with ⟨rfl, _⟩ | ⟨g', cap, cur, rfl, _, hh, _⟩
  · rcases h.2 with ⟨rfl, _⟩ | ⟨g', cap, cur, rfl, _, hh, _⟩
    · exact .inl rfl
    · right; simp [Value.ownBlock]
  · exact h.notBlk hh hne
theorem Oss.grown {w w' : World} {B B2 k size : Nat} {t2 : TypeId} {u : Value} {vs : List Value} {ls : List (List UInt8)} {xs : List Value} (h : Oss w B vs ls) (ho : w.ownsRow B2 t2 size u k xs) (hne : t2 ≠ 5) (hg : w.grownBy w' u.ownBlock) : Oss w' B vs ls :=
  h.keep fun _ _ hb => hb.grown hg (hb.notRow ho hne)
/-- A call that may change an elder block leaves them as they are. -/
theorem rowElder {w w' : World} {B g k size : Nat} {te : TypeId} {v : Value} {xs : List Value} (h : w.ownsRow B te size v k xs) (hg : g < B) (hO : Only g w w') : w'.ownsRow B te size v k xs := by
  refine h.kept hO ?_
  cases hv : v.ownBlock with
  | none => exact .inl rfl
  | some q => right; have := (h.lt q hv).1; simp; omega
theorem Ob.elder {w w' : World} {B g : Nat} {te : TypeId} {v : Value} {r : List UInt8} (h : Ob w B te v r) (hg : g < B) (hO : Only g w w') : Ob w' B te v r := rowElder h hg hO
theorem Oss.elder {w w' : World} {B g : Nat} {vs : List Value} {ls : List (List UInt8)} (h : Oss w B vs ls) (hg : g < B) (hO : Only g w w') : Oss w' B vs ls := h.keep fun _ _ ho => ho.elder hg hO
theorem Oss.append1 {w : World} {B : Nat} {v : Value} {l : List UInt8} {vs : List Value} {ls : List (List UInt8)} (h : Oss w B vs ls) (k : Ob w B 5 v l) : Oss w B (vs ++ [v]) (ls ++ [l]) := by
  have h1 := h.1
  refine ⟨by simp [h1], fun i x hx => ?_⟩
  by_cases hi : i < ls.length
  · rw [List.getElem?_append_left hi] at hx
    obtain ⟨u, e, r⟩ := h.2 i x hx
    exact ⟨u, by rw [List.getElem?_append_left (by omega)]; exact e, r⟩
  · rw [List.getElem?_append_right (by omega)] at hx
    have h2 := (List.getElem?_eq_some_iff.1 hx).1
    simp at h2
    have e : i - ls.length = 0 := by omega
    rw [e] at hx
    simp at hx
    subst hx
    exact ⟨v, by rw [List.getElem?_append_right (by omega), show i - vs.length = 0 by omega]; rfl, k⟩

/-! ### next -/

set_option maxHeartbeats 1600000 in
theorem bdNextYes (g k : Nat) (l : List UInt8) (w : World) {s : Value} (h : Cur w g s l k) (hok : (nx l k).2.2 = 0) :
    Calls Try.prog 69 #[.pointer (some ⟨g, 0, none⟩)] w (TakeOk w g s l (nx l k).1 (nx l k).2.1) := by
  have hg := h.lt
  obtain ⟨q0, q1, q2, q3, q4, q5, q6⟩ := nx_ok l k hok
  have hll : l.length ≤ 1099511627776 := by obtain ⟨_, _, _, _, _, _, hb, _, _, hn⟩ := h; have := hb.len; omega
  have HR : Hid (nx l k = ((l.drop k).take ((rHead l k).2.2.1 + (rHead l k).2.1.toNat - k), (rHead l k).2.2.1 + (rHead l k).2.1.toNat, 0)) := Prod.ext q6 (Prod.ext q5 hok)
  rw [HR.out]
  clear HR hok q5 q6
  have hH := Lib.hid (fun W (hW : Cur W g s l k) => hdRead g k l W hW)
  have HO : Hid (∀ W e w', HeadOk W g s l k e w' → e = .returned (.tuple #[(rHead l k).1.v, .int .i64 (rHead l k).2.1, .int .i64 0]) ∧ Cur w' g s l (rHead l k).2.2.1 ∧ Only g W w') := by
    intro W e w' ⟨h1, h2, h3⟩
    rw [q0] at h1
    exact ⟨h1, h2, h3⟩
  clear q0
  generalize (rHead l k).1 = T at *
  generalize (rHead l k).2.2.1 = K at *
  generalize (rHead l k).2.1 = N0 at *
  obtain ⟨N, rfl⟩ : ∃ N : Nat, N0 = N := ⟨N0.toNat, by omega⟩
  rw [Int.toNat_natCast] at *
  obtain ⟨tc, tn, tm⟩ := T
  unfold Tg.v at *
  go_enter Try.func69, Try.ntmps69
  go_wp2_with fail
  refine (curAt g k l _ h).mono ?_
  rintro e w1 ⟨rfl, rfl⟩
  go_wp2_with fail
  refine (hH.out _ h).mono ?_
  intro e w2 hh
  obtain ⟨rfl, hc2, hO2⟩ := HO.out _ _ _ hh
  clear hh
  have hc3 : ∀ o, Cur (w2.alloc o) g s l K := fun o => hc2.below (below_alloc1 _ _)
  have hO3 : ∀ o, Only g w (w2.alloc o) := fun o => hO2.trans (Only.of_below (below_alloc1 _ _))
  have HC3 := Lib.hid hc3
  have HO3 := Lib.hid hO3
  clear hc3 hO3 hc2 hO2 HO hH
  go_wp2_with fail
  refine (curAt g K l _ (HC3.out _)).mono ?_
  rintro e w3 ⟨rfl, rfl⟩
  go_wp2_with fail
  refine (curBack g K k _ l _ (HC3.out _) (by omega) rfl).mono ?_
  rintro e w4 ⟨rfl, hc4, hO4⟩
  have hO5 := (HO3.out _).trans hO4
  clear HC3 HO3 hO4 h
  go_wp2_with fail
  refine (curTake g k (K + N - k) _ l _ hc4 (by omega) (by omega)).mono ?_
  rintro e w5 ⟨A, n, c, rfl, hob, hc5, hO6⟩
  go_wp2
  go_ret2
  rw [show k + (K + N - k) = K + N by omega] at hc5
  exact ⟨A, n, c, rfl, hob.mono hO5.size, hc5, hO5.trans hO6⟩

set_option maxHeartbeats 1600000 in
theorem bdNextNo (g k : Nat) (l : List UInt8) (w : World) {s : Value} (h : Cur w g s l k) (hno : (nx l k).2.2 ≠ 0) :
    Calls Try.prog 69 #[.pointer (some ⟨g, 0, none⟩)] w fun e w' => e = .returned (.tuple #[.slice none 0 0, .int .i64 (nx l k).2.2]) ∧ (∃ k', k ≤ k' ∧ Cur w' g s l k') ∧ Only g w w' := by
  have hg := h.lt
  have hll : l.length ≤ 1099511627776 := by obtain ⟨_, _, _, _, _, _, hb, _, _, hn⟩ := h; have := hb.len; omega
  have hN := nx_no l k hno
  generalize (nx l k).2.2 = E at *
  have hH := Lib.hid (fun W (hW : Cur W g s l k) => hdRead g k l W hW)
  have hge := rHead_ge l k
  have HO : Hid (∀ W e w', HeadOk W g s l k e w' → e = .returned (.tuple #[(rHead l k).1.v, .int .i64 (rHead l k).2.1, .int .i64 (rHead l k).2.2.2]) ∧ Cur w' g s l (rHead l k).2.2.1 ∧ Only g W w') := fun W e w' h => h
  generalize rHead l k = T at *
  obtain ⟨⟨tc, tn, tm⟩, N0, K, E0⟩ := T
  simp only at hN hge
  unfold Tg.v at *
  rcases hN with ⟨hne, rfl⟩ | ⟨rfl, hlt, hk, hK, h0, h1, rfl⟩
  · have e1 : (E != 0) = true := by simp; exact hne
    have HNE := Lib.hid hne
    clear hne hno
    go_enter Try.func69, Try.ntmps69
    go_wp2_with fail
    refine (curAt g k l _ h).mono ?_
    rintro e w1 ⟨rfl, rfl⟩
    go_wp2_with fail
    refine (hH.out _ h).mono ?_
    intro e w2 hh
    obtain ⟨rfl, hc2, hO2⟩ := HO.out _ _ _ hh
    have hc3 := hc2.below (below_alloc1 w2 (.cells #[Value.int IntKind.i64 tc, Value.int IntKind.i64 tn, Value.bool tm] 36))
    have hO3 := hO2.trans (Only.of_below (g := g) (below_alloc1 w2 (.cells #[Value.int IntKind.i64 tc, Value.int IntKind.i64 tn, Value.bool tm] 36)))
    clear hh HO hH hc2 hO2 h
    go_wp2
    go_ret2
    exact ⟨rfl, ⟨K, hge, hc3⟩, hO3⟩
  · obtain ⟨N, rfl⟩ : ∃ N : Nat, N0 = N := ⟨N0.toNat, by omega⟩
    rw [Int.toNat_natCast] at *
    go_enter Try.func69, Try.ntmps69
    go_wp2_with fail
    refine (curAt g k l _ h).mono ?_
    rintro e w1 ⟨rfl, rfl⟩
    go_wp2_with fail
    refine (hH.out _ h).mono ?_
    intro e w2 hh
    obtain ⟨rfl, hc2, hO2⟩ := HO.out _ _ _ hh
    clear hh
    have hc3 : ∀ o, Cur (w2.alloc o) g s l K := fun o => hc2.below (below_alloc1 _ _)
    have hO3 : ∀ o, Only g w (w2.alloc o) := fun o => hO2.trans (Only.of_below (below_alloc1 _ _))
    have HC3 := Lib.hid hc3
    have HO3 := Lib.hid hO3
    clear hc3 hO3 hc2 hO2 HO hH
    go_wp2_with fail
    refine (curAt g K l _ (HC3.out _)).mono ?_
    rintro e w3 ⟨rfl, rfl⟩
    go_wp2_with fail
    refine (curBack g K k _ l _ (HC3.out _) (by omega) rfl).mono ?_
    rintro e w4 ⟨rfl, hc4, hO4⟩
    have hO5 := (HO3.out _).trans hO4
    clear HC3 HO3 hO4 h
    go_wp2_with fail
    refine (curTakeNo g k _ l _ hc4 (.inr (by omega))).mono ?_
    rintro e w5 ⟨rfl, hq⟩
    rw [if_neg (by omega)]
    go_wp2
    go_ret2
    exact ⟨rfl, ⟨k, Nat.le_refl _, hc4.qt hq⟩, hO5.trans (Only.of_qt hq)⟩

/-! ### Wholes -/

/-- Where a cursor stands. -/
def curK (w : World) (g : Nat) : Nat := match w.cell? ⟨g, 1, none⟩ with
  | some (.int _ z) => z.toNat
  | _ => 0
theorem Cur.curK {w : World} {g k : Nat} {s : Value} {l : List UInt8} (h : Cur w g s l k) : curK w g = k := by
  obtain ⟨A, n, c, h0, h1, _⟩ := h.open_
  unfold Go.Proofs.Ytbhfaakhcnkegaa.curK
  rw [h1]; simp

/-- What Wholes hands back: the rows are the call's own. -/
def WhOk (w : World) (g : Nat) (s : Value) (l : List UInt8) (k : Nat) (e : Ending) (w' : World) : Prop :=
  ((whs l k).2 = 0 → ∃ A n c vs, e = .returned (.tuple #[.slice A n c, .int .i64 0]) ∧ n = (whs l k).1.length ∧ w'.ownsRow w.heap.size 41 1 (.slice A n c) n vs ∧ Oss w' w.heap.size vs (whs l k).1 ∧ Cur w' g s l l.length) ∧
  ((whs l k).2 ≠ 0 → e = .returned (.tuple #[.slice none 0 0, .int .i64 (whs l k).2]) ∧ Cur w' g s l k) ∧ Only g w w'

set_option maxHeartbeats 1600000 in
theorem bdWholes (g k : Nat) (l : List UInt8) (w : World) {s : Value} (h : Cur w g s l k) (hlen : l.length ≤ 1099511627) :
    Calls Try.prog 38 #[.pointer (some ⟨g, 0, none⟩)] w (WhOk w g s l k) := by
  obtain ⟨i1, hi1, hz0, hz1, hz2⟩ := info_parts sl_info
  have hkl : k ≤ l.length := by obtain ⟨_, _, _, _, _, _, hb, _, hk, _⟩ := h; have := hb.len; omega
  have hglt := h.lt
  have H := Lib.hid h
  have HT : Hid (WhOk w g s l k = fun e w' => ((whs l k).2 = 0 → ∃ A n c vs, e = .returned (.tuple #[.slice A n c, .int .i64 0]) ∧ n = (whs l k).1.length ∧ w'.ownsRow w.heap.size 41 1 (.slice A n c) n vs ∧ Oss w' w.heap.size vs (whs l k).1 ∧ Cur w' g s l l.length) ∧
    ((whs l k).2 ≠ 0 → e = .returned (.tuple #[.slice none 0 0, .int .i64 (whs l k).2]) ∧ Cur w' g s l k) ∧ Only g w w') := rfl
  have h0 : Hid (whs l k = whs2 [] (whs l k)) := (whs2_nil l k).symm
  go_enter Try.func38, Try.ntmps38
  go_wp2_with fail
  refine (curAt g k l _ h).mono ?_
  rintro e w1 ⟨rfl, rfl⟩
  go_wp2_with fail
  go_loopw [5] (fun v wr => ∃ (j : Nat) (acc : List (List UInt8)) (vs : List Value), k ≤ j ∧ j ≤ l.length ∧ acc.length ≤ j ∧ Cur wr g s l j ∧ Only g w wr ∧ wr.ownsRow w.heap.size 41 1 v acc.length vs ∧ Oss wr w.heap.size vs acc ∧
    Hid (whs l k = whs2 acc (whs l j))) (fun _ wr => l.length - curK wr g)
  case atStart => exact ⟨k, [], [], Nat.le_refl _, hkl, Nat.zero_le _, h, Only.refl _ _, World.ownsRow_nil _ _ _ _, Oss.nil _ _, h0⟩
  case round =>
    clear h h0
    obtain ⟨j, acc, vs, hkj, hj, hacc, hc, hO, hrow, hoss, hst⟩ := hrel
    by_cases hlt : j < l.length
    · have e1 : decide ((0 : Int) < (l.length : Int) - j) = true := by simp; omega
      have hjK := hc.curK
      by_cases hok : (nx l j).2.2 = 0
      · obtain ⟨q0, q1, q2, q3, q4, q5, q6⟩ := nx_ok l j hok
        have hst2 : Hid (whs l k = whs2 (acc ++ [(nx l j).1]) (whs l (nx l j).2.1)) := hst.out.trans (whs2_step acc l j hlt hok)
        have hnext : j < (nx l j).2.1 ∧ (nx l j).2.1 ≤ l.length := by rw [q5]; omega
        clear q0 q1 q2 q3 q4 q5 q6 hst
        have hN := Lib.hid (fun W (hW : Cur W g s l j) => bdNextYes g j l W hW hok)
        clear hok
        generalize (nx l j).2.1 = j2 at *
        generalize (nx l j).1 = b at *
        have HLT := Lib.hid hlt
        clear hlt
        go_wp2_with fail
        refine (curLeft g j l _ hc).mono ?_
        rintro e w2 ⟨rfl, hq⟩
        go_wp2_with fail
        refine (hN.out _ (hc.qt hq)).mono ?_
        rintro e w3 ⟨A, n, c, rfl, hob, hc3, hO3⟩
        have hO13 := (Only.of_qt (g := g) hq).trans hO3
        have hrow3 := rowElder hrow hglt hO13
        have hoss3 := hoss.elder hglt hO13
        have hob3 := hob.mono (Nat.le_trans hO.size (hq.below (B := 0)).size)
        clear hob hrow hoss hN
        have hO4 := hO.trans hO13
        clear hO hO13 hO3 hq hc
        have hsz4 := hO4.size
        go_wp2_with (at_builtin; refine wpList_appendS rfl _ _ 27 rfl w.heap.size 41 i1 (.slice none 0 0) Try.underlying27 hi1 hz0 hz1 hz2 rfl _ acc.length vs rfl ?ab0 _ 1 _ [.slice A n c] rfl rfl ?ab1 ?ab2 ?ab3 ?ab4 ?_)
        case ab0 => exact hrow3.alloc _
        case ab1 => exact (Vs.new1 w3 (.slice A n c) _).2
        case ab2 => simp [Value.oneCell']
        case ab3 => omega
        case ab4 => simp; omega
        intro v4 w4 hrow4 hg4
        have hrowA := hrow3.alloc (.cells #[.slice A n c] 41)
        have hossA := (hoss3.append1 hob3).below (below_alloc1 w3 (.cells #[.slice A n c] 41))
        have hoss4 := hossA.grown hrowA (by decide) hg4
        have hOA := hO4.trans (Only.of_below (g := g) (below_alloc1 w3 (.cells #[.slice A n c] 41)))
        have hcA := hc3.below (below_alloc1 w3 (.cells #[.slice A n c] 41))
        have hr4 : ∀ b, u5.ownBlock = some b → w.heap.size ≤ b := fun b hb => (hrow3.lt b hb).1
        have hc4 := Cur.frame H.out hOA hcA hg4 hr4
        have hO5 := Only.grown hOA hg4 hr4
        clear hrow3 hoss3 hob3 hrowA hossA hOA hcA hr4 hc3 hO4 hg4
        go_wp2
        go_roundw
        case rel => exact ⟨j2, acc ++ [b], _, by omega, by omega, by simp; omega, hc4, hO5, by simpa using hrow4, hoss4, hst2⟩
        case measure => rw [hc4.curK, hjK]; have := HLT.out; omega
      · have hst2 : Hid (whs l k = ([], (nx l j).2.2)) := by
          unfold Hid
          rw [hst.out, whs_err l j hlt hok]
          unfold whs2
          rw [if_pos hok]
        have hN := Lib.hid (fun W (hW : Cur W g s l j) => bdNextNo g j l W hW hok)
        have e2 : ((nx l j).2.2 != 0) = true := by simp; exact hok
        have HOK := Lib.hid hok
        clear hok
        generalize (nx l j).2.2 = E at *
        have HLT := Lib.hid hlt
        clear hst hlt hrow hoss
        go_wp2_with fail
        refine (curLeft g j l _ hc).mono ?_
        rintro e w2 ⟨rfl, hq⟩
        go_wp2_with fail
        refine (hN.out _ (hc.qt hq)).mono ?_
        rintro e w3 ⟨rfl, ⟨k3, hk3, hc3⟩, hO3⟩
        have hO4 := (hO.trans (Only.of_qt hq)).trans hO3
        clear hO hO3 hq hc hN
        go_wp2_with fail
        refine (curBack g k3 k _ l _ hc3 (by omega) rfl).mono ?_
        rintro e w4 ⟨rfl, hc4, hO5⟩
        have hO6 := hO4.trans hO5
        clear hO4 hO5 hc3
        go_wp2
        go_ret2
        rw [HT.out, hst2.out]
        exact ⟨fun e => absurd e HOK.out, fun _ => ⟨rfl, hc4⟩, hO6⟩
    · have e1 : decide ((0 : Int) < (l.length : Int) - j) = false := by simp; omega
      have hjl : Hid (j = l.length) := by unfold Hid; omega
      have hst2 : Hid (whs l k = (acc, 0)) := by
        unfold Hid
        rw [hst.out, whs_end l j (by omega)]
        simp [whs2]
      have HLT := Lib.hid hlt
      clear hst hlt
      go_wp2_with fail
      refine (curLeft g j l _ hc).mono ?_
      rintro e w2 ⟨rfl, hq⟩
      have hrow2 := rowElder hrow hglt (Only.of_qt hq)
      have hoss2 := hoss.elder hglt (Only.of_qt hq)
      have hc2 := hc.qt hq
      have hO2 := hO.trans (Only.of_qt hq)
      clear hrow hoss hc hO hq
      obtain ⟨A, c, rfl, hac, _⟩ := bss_own hrow2 hoss2.vss
      go_wp2
      go_ret2
      rw [HT.out, hst2.out]
      rw [hjl.out] at hc2
      exact ⟨fun _ => ⟨A, _, c, vs, rfl, rfl, hrow2, hoss2, hc2⟩, fun e => absurd rfl e, hO2⟩

end Go.Proofs.Ytbhfaakhcnkegaa
