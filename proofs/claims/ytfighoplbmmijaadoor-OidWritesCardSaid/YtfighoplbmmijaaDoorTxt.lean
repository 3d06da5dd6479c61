/-
  What needs no program: an oid's text, there and back.
-/
import Derived.Test.YtfighoplbmmijaaDoorOid
namespace Go.Proofs.YtfighoplbmmijaaDoor
open Go.RowKit
set_option linter.unusedVariables false
set_option linter.unusedSimpArgs false
set_option maxRecDepth 4000

/-- A decimal digit. -/
def digB (c : UInt8) : Bool := decide (48 ≤ c.toNat) && decide (c.toNat ≤ 57)
/-- The number that these digits say. -/
def dvN (p : List UInt8) : Nat := p.foldl (fun n c => 10 * n + (c.toNat - 48)) 0
theorem dvN_snoc (p : List UInt8) (c : UInt8) : dvN (p ++ [c]) = 10 * dvN p + (c.toNat - 48) := by simp [dvN]
theorem dvN_one (c : UInt8) : dvN [c] = c.toNat - 48 := by simp [dvN]
/-- A number as it must be written: 1 to 10 digits, no zero ahead. -/
def decOk (p : List UInt8) : Bool := decide (1 ≤ p.length) && (decide (p.length ≤ 10) && ((decide (p.length ≤ 1) || decide (nth p 0 ≠ 48)) && p.all digB))
structure DecOk (p : List UInt8) : Prop where
  one : 1 ≤ p.length
  ten : p.length ≤ 10
  head : p.length ≤ 1 ∨ nth p 0 ≠ 48
  digs : ∀ c ∈ p, 48 ≤ c.toNat ∧ c.toNat ≤ 57
theorem decOk_iff (p : List UInt8) : decOk p = true ↔ DecOk p := by
  unfold decOk
  simp only [Bool.and_eq_true, Bool.or_eq_true, decide_eq_true_eq, List.all_eq_true, digB]
  exact ⟨fun ⟨a, b, c, d⟩ => ⟨a, b, c, d⟩, fun h => ⟨h.one, h.ten, h.head, h.digs⟩⟩
theorem dvN_lt : ∀ (n : Nat) (p : List UInt8), p.length = n → (∀ c ∈ p, 48 ≤ c.toNat ∧ c.toNat ≤ 57) → dvN p < 10 ^ n
  | 0, p, h, _ => by have : p = [] := List.eq_nil_of_length_eq_zero h; subst this; simp [dvN]
  | n + 1, p, h, hd => by
    have hne : p ≠ [] := by intro e; simp [e] at h
    have e := (List.dropLast_concat_getLast hne)
    rw [← e] at hd ⊢
    have := dvN_lt n p.dropLast (by simp; omega) (fun c hc => hd c (by simp [hc]))
    have hl := hd (p.getLast hne) (by simp)
    rw [dvN_snoc, Nat.pow_succ]
    omega
theorem dec_digs (u : Nat) : ∀ c ∈ Lib.decDigits u, 48 ≤ c.toNat ∧ c.toNat ≤ 57 := by
  induction u using Nat.strongRecOn with
  | ind u ih =>
    intro c hc
    rw [Lib.decDigits] at hc
    split at hc
    · rw [List.mem_singleton] at hc; subst hc; rw [u8n _ (by omega)]; omega
    · rw [List.mem_append] at hc
      rcases hc with hc | hc
      · exact ih (u / 10) (by omega) c hc
      · rw [List.mem_singleton] at hc; subst hc; rw [u8n _ (by omega)]; omega
theorem dvN_dec (u : Nat) : dvN (Lib.decDigits u) = u := by
  induction u using Nat.strongRecOn with
  | ind u ih =>
    rw [Lib.decDigits]
    split
    · rw [dvN_one, u8n _ (by omega)]; omega
    · rw [dvN_snoc, ih (u / 10) (by omega), u8n _ (by omega)]; omega
theorem dec_pos (u : Nat) : 1 ≤ (Lib.decDigits u).length := by rw [Lib.decDigits_length]; exact Lib.nDigits_pos u
theorem nth_append_lt {a b : List UInt8} {k : Nat} (h : k < a.length) : nth (a ++ b) k = nth a k := by
  unfold nth; rw [List.getD, List.getD, List.getElem?_append_left h]
theorem dec_head (u : Nat) (h : 1 ≤ u) : nth (Lib.decDigits u) 0 ≠ 48 := by
  induction u using Nat.strongRecOn with
  | ind u ih =>
    rw [Lib.decDigits]
    split
    · unfold nth; simp; omega
    · rw [nth_append_lt (by have := dec_pos (u / 10); omega)]
      exact ih (u / 10) (by omega) (by omega)
theorem nDigits_le {u k : Nat} (h : u < 10 ^ (k + 1)) : Lib.nDigits u ≤ k + 1 := by
  induction k generalizing u with
  | zero => rw [Lib.nDigits_small (by simpa using h)]; omega
  | succ k ih =>
    by_cases h1 : u < 10
    · rw [Lib.nDigits_small h1]; omega
    · rw [Lib.nDigits_big h1]
      have := ih (u := u / 10) (by rw [Nat.pow_succ] at h; omega)
      omega
theorem dec_ok (u : Nat) (h : u < 10000000000) : DecOk (Lib.decDigits u) := by
  refine ⟨dec_pos u, ?_, ?_, dec_digs u⟩
  · rw [Lib.decDigits_length]; exact nDigits_le (k := 9) (by simpa using h)
  · by_cases h0 : u < 10
    · left; rw [Lib.decDigits_one h0]; simp
    · right; exact dec_head u (by omega)
theorem dvN_head {p : List UInt8} (h1 : 1 ≤ p.length) (hd : ∀ c ∈ p, 48 ≤ c.toNat ∧ c.toNat ≤ 57) (hh : nth p 0 ≠ 48) : 1 ≤ dvN p := by
  have key : ∀ (n : Nat) (p : List UInt8), p.length = n + 1 → (∀ c ∈ p, 48 ≤ c.toNat ∧ c.toNat ≤ 57) → nth p 0 ≠ 48 → 1 ≤ dvN p := by
    intro n
    induction n with
    | zero =>
      intro p hp hd hh
      match p, hp with
      | [c], _ =>
        have := hd c (by simp)
        simp [nth] at hh
        rw [dvN_one]; omega
    | succ n ih =>
      intro p hp hd hh
      have hne : p ≠ [] := by intro e; simp [e] at hp
      have e := (List.dropLast_concat_getLast hne)
      have hl : p.dropLast.length = n + 1 := by simp; omega
      rw [← e] at hd hh ⊢
      rw [nth_append_lt (by omega)] at hh
      have := ih p.dropLast hl (fun c hc => hd c (by simp [hc])) hh
      rw [dvN_snoc]; omega
  exact key (p.length - 1) p (by omega) hd hh
theorem dec_dvN {p : List UInt8} (h1 : 1 ≤ p.length) (hd : ∀ c ∈ p, 48 ≤ c.toNat ∧ c.toNat ≤ 57) (hh : p.length ≤ 1 ∨ nth p 0 ≠ 48) : Lib.decDigits (dvN p) = p := by
  have key : ∀ (n : Nat) (p : List UInt8), p.length = n + 1 → (∀ c ∈ p, 48 ≤ c.toNat ∧ c.toNat ≤ 57) → (p.length ≤ 1 ∨ nth p 0 ≠ 48) → Lib.decDigits (dvN p) = p := by
    intro n
    induction n with
    | zero =>
      intro p hp hd hh
      match p, hp with
      | [c], _ =>
        have := hd c (by simp)
        rw [dvN_one, Lib.decDigits_one (by omega), show 48 + (c.toNat - 48) = c.toNat by omega]; simp
    | succ n ih =>
      intro p hp hd hh
      have hne : p ≠ [] := by intro e; simp [e] at hp
      have e := (List.dropLast_concat_getLast hne)
      have hl : p.dropLast.length = n + 1 := by simp; omega
      have hh' : nth p 0 ≠ 48 := by
        rcases hh with h | h
        · omega
        · exact h
      have hlast := hd (p.getLast hne) (by simp)
      rw [← e] at hd hh' ⊢
      rw [nth_append_lt (by omega)] at hh'
      have hq := ih p.dropLast hl (fun c hc => hd c (by simp [hc])) (.inr hh')
      have hpos := dvN_head (by omega) (fun c hc => hd c (by simp [hc])) hh'
      rw [dvN_snoc, Lib.decDigits, dif_neg (by omega)]
      rw [show (10 * dvN p.dropLast + ((p.getLast hne).toNat - 48)) / 10 = dvN p.dropLast by omega, hq, show 48 + (10 * dvN p.dropLast + ((p.getLast hne).toNat - 48)) % 10 = (p.getLast hne).toNat by omega]
      simp
  exact key (p.length - 1) p (by omega) hd hh

/-- The parts between the points. -/
def spt : List UInt8 → List (List UInt8)
  | [] => [[]]
  | c :: r => if c = 46 then [] :: spt r else
    match spt r with
    | [] => [[c]]
    | p :: ps => (c :: p) :: ps
theorem spt_ne (s : List UInt8) : spt s ≠ [] := by
  cases s with
  | nil => simp [spt]
  | cons c r =>
    unfold spt
    split
    · simp
    · split <;> simp
theorem spt_cons {c : UInt8} {r : List UInt8} (h : c ≠ 46) : ∃ p ps, spt r = p :: ps ∧ spt (c :: r) = (c :: p) :: ps := by
  cases hs : spt r with
  | nil => exact absurd hs (spt_ne r)
  | cons p ps => exact ⟨p, ps, rfl, by rw [spt, if_neg h, hs]⟩
theorem spt_point (r : List UInt8) : spt (46 :: r) = [] :: spt r := by rw [spt, if_pos rfl]
/-- Without a point. -/
theorem spt_plain : ∀ {p : List UInt8}, (∀ c ∈ p, c ≠ 46) → spt p = [p]
  | [], _ => rfl
  | c :: p, h => by
    obtain ⟨q, qs, h1, h2⟩ := spt_cons (r := p) (h c (by simp))
    rw [spt_plain (fun d hd => h d (by simp [hd]))] at h1
    cases h1
    exact h2
theorem spt_app : ∀ {p : List UInt8} (r : List UInt8), (∀ c ∈ p, c ≠ 46) → spt (p ++ 46 :: r) = p :: spt r
  | [], r, _ => spt_point r
  | c :: p, r, h => by
    obtain ⟨q, qs, h1, h2⟩ := spt_cons (r := p ++ 46 :: r) (h c (by simp))
    rw [spt_app r (fun d hd => h d (by simp [hd]))] at h1
    cases h1
    exact h2
theorem joinTail_cons (sep x : List UInt8) (r : List (List UInt8)) : Lib.joinTail sep (x :: r) = sep ++ x ++ Lib.joinTail sep r := by simp [Lib.joinTail]
theorem join_cons2 (x y : List UInt8) (r : List (List UInt8)) (sep : List UInt8) : Lib.join (x :: y :: r) sep = x ++ sep ++ Lib.join (y :: r) sep := by
  rw [Lib.join_cons, Lib.join_cons, joinTail_cons]; simp
theorem spt_join : ∀ {xs : List (List UInt8)}, xs ≠ [] → (∀ x ∈ xs, ∀ c ∈ x, c ≠ 46) → spt (Lib.join xs [46]) = xs
  | [], h, _ => absurd rfl h
  | [x], _, h => by rw [Lib.join_one]; exact spt_plain (h x (by simp))
  | x :: y :: r, _, h => by
    rw [join_cons2, List.append_assoc, List.cons_append, List.nil_append, spt_app _ (h x (by simp)), spt_join (by simp) (fun z hz => h z (by simp [hz]))]
theorem join_spt : ∀ s : List UInt8, Lib.join (spt s) [46] = s
  | [] => by simp [spt, Lib.join_one]
  | c :: r => by
    by_cases h : c = 46
    · subst h
      rw [spt_point]
      have ih := join_spt r
      cases hs : spt r with
      | nil => exact absurd hs (spt_ne r)
      | cons p ps =>
        rw [hs] at ih
        rw [join_cons2, ih]; rfl
    · obtain ⟨p, ps, h1, h2⟩ := spt_cons (r := r) h
      have ih := join_spt r
      rw [h1] at ih
      rw [h2, Lib.join_cons, List.cons_append, ← Lib.join_cons, ih]

/-- The oid of a text, or an error. -/
def fromO (s : List UInt8) : List Int × Int :=
  if (spt s).all decOk = true then (if rightO ((spt s).map fun p => (dvN p : Int)) = true then ((spt s).map fun p => (dvN p : Int), 0) else ([], 1)) else ([], 6)
/-- An oid's text. -/
def textO (l : List Int) : List UInt8 := Lib.join (l.map Lib.itoa) [46]
theorem itoa_ok (n : Int) (h0 : 0 ≤ n) (h1 : n ≤ 2147483647) : DecOk (Lib.itoa n) ∧ (dvN (Lib.itoa n) : Int) = n := by
  obtain ⟨k, rfl⟩ := Int.eq_ofNat_of_zero_le h0
  rw [Lib.itoa_nonneg]
  exact ⟨dec_ok k (by omega), by rw [dvN_dec]⟩
theorem DecOk.no46 {p : List UInt8} (h : DecOk p) : ∀ c ∈ p, c ≠ 46 := by
  intro c hc e
  have := h.digs c hc
  subst e
  simp at this
theorem map_dv {l : List Int} (h : ∀ n ∈ l, 0 ≤ n ∧ n ≤ 2147483647) : (l.map Lib.itoa).map (fun p => (dvN p : Int)) = l := by
  rw [List.map_map]
  conv => rhs; rw [← List.map_id l]
  apply List.map_congr_left
  intro n hn
  exact (itoa_ok n (h n hn).1 (h n hn).2).2
/-- There and back. -/
theorem from_text {l : List Int} (h : RightO l) : fromO (textO l) = (l, 0) := by
  have hs : spt (textO l) = l.map Lib.itoa := by
    refine spt_join ?_ ?_
    · intro e; have := congrArg List.length e; have h2 := h.two; simp at this; simp [this] at h2
    · intro x hx
      obtain ⟨n, hn, rfl⟩ := List.mem_map.1 hx
      exact (itoa_ok n (h.arcs n hn).1 (h.arcs n hn).2).1.no46
  unfold fromO
  rw [hs, map_dv h.arcs, if_pos, if_pos ((rightO_iff l).2 h)]
  rw [List.all_eq_true]
  intro x hx
  obtain ⟨n, hn, rfl⟩ := List.mem_map.1 hx
  exact (decOk_iff _).2 (itoa_ok n (h.arcs n hn).1 (h.arcs n hn).2).1
theorem text_from {s : List UInt8} {l : List Int} (h : fromO s = (l, 0)) : RightO l ∧ textO l = s := by
  unfold fromO at h
  split at h
  · rename_i ha
    split at h
    · rename_i hr
      simp at h
      subst h
      refine ⟨(rightO_iff _).1 hr, ?_⟩
      unfold textO
      rw [List.map_map]
      have : (spt s).map (Lib.itoa ∘ fun p => (dvN p : Int)) = spt s := by
        conv => rhs; rw [← List.map_id (spt s)]
        apply List.map_congr_left
        intro p hp
        have hd := (decOk_iff p).1 (List.all_eq_true.1 ha p hp)
        show Lib.itoa (dvN p : Int) = p
        rw [Lib.itoa_nonneg]
        exact dec_dvN hd.one hd.digs hd.head
      rw [this]
      exact join_spt s
    · simp at h
  · simp at h
end Go.Proofs.YtfighoplbmmijaaDoor
