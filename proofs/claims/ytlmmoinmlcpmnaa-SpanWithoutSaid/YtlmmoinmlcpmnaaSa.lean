/-
  Plain facts of sums that stay and of spans: no program.
-/
import Derived.Test.YtlmmoinmlcpmnaaDm
namespace Go.Proofs.Ytlmmoinmlcpmnaa
open Go.RowKit
set_option linter.unusedVariables false
set_option linter.unusedSimpArgs false
set_option maxRecDepth 4000

def sat (z : Int) : Int := if 9223372036854775807 < z then 9223372036854775807 else if z < -9223372036854775808 then -9223372036854775808 else z
def pls (a b : Int) : Int := sat (a + b)
def mns (a b : Int) : Int := sat (a - b)
theorem sat_i64 (z : Int) : I64 (sat z) := by unfold sat I64; repeat' split
                                              all_goals omega
theorem sat_id {z : Int} (h : I64 z) : sat z = z := by unfold sat; unfold I64 at h; repeat' split
                                                       all_goals omega
theorem pls_i64 (a b : Int) : I64 (pls a b) := sat_i64 _
theorem mns_i64 (a b : Int) : I64 (mns a b) := sat_i64 _
theorem mns_low {a : Int} (ha : I64 a) : pls (pls a 9223372036854775807) 1 = mns a (-9223372036854775808) := by
  unfold pls mns sat; unfold I64 at ha
  repeat' split
  all_goals omega
theorem mns_neg (a b : Int) : pls a (-b) = mns a b := rfl
theorem fold_i64 : ∀ (l : List Int) (a : Int), I64 a → I64 (l.foldl pls a)
  | [], a, h => h
  | x :: l, a, h => fold_i64 l _ (pls_i64 a x)

/-! ### spans -/
abbrev Sp := Int × Int
def I64s (x : Sp) : Prop := I64 x.1 ∧ I64 x.2
def Inn (x : Sp) (t : Int) : Prop := x.1 ≤ t ∧ t ≤ x.2
instance (x : Sp) (t : Int) : Decidable (Inn x t) := by unfold Inn; infer_instance
def Anyp (l : List Sp) (t : Int) : Prop := ∃ s ∈ l, Inn s t
instance (l : List Sp) (t : Int) : Decidable (Anyp l t) := by unfold Anyp; infer_instance
def canon (x : Sp) : Sp := if x.2 < x.1 then (1, 0) else x
def meetS (m s : Sp) : Sp := (if m.1 < s.1 then s.1 else m.1, if s.2 < m.2 then s.2 else m.2)
def covS (c s : Sp) : Sp := if s.2 < s.1 then c else if c.2 < c.1 then s else (if s.1 < c.1 then s.1 else c.1, if c.2 < s.2 then s.2 else c.2)
def meetL (l : List Sp) : Sp := canon (l.foldl meetS (-9223372036854775808, 9223372036854775807))
def covL (l : List Sp) : Sp := l.foldl covS (1, 0)
def sub1 (t : Int) : Sp := if t = -9223372036854775808 then (1, 0) else (-9223372036854775808, t - 1)
def add1 (t : Int) : Sp := if t = 9223372036854775807 then (1, 0) else (t + 1, 9223372036854775807)
theorem canon_i64 {x : Sp} (h : I64s x) : I64s (canon x) := by
  unfold canon; split
  · exact ⟨by unfold I64; omega, by unfold I64; omega⟩
  · exact h
theorem meetS_i64 {x y : Sp} (h : I64s x) (k : I64s y) : I64s (meetS x y) := by
  obtain ⟨h1, h2⟩ := h; obtain ⟨k1, k2⟩ := k
  unfold meetS I64s; constructor <;> dsimp only <;> split <;> assumption
theorem covS_i64 {x y : Sp} (h : I64s x) (k : I64s y) : I64s (covS x y) := by
  obtain ⟨h1, h2⟩ := h; obtain ⟨k1, k2⟩ := k
  unfold covS; split
  · exact ⟨h1, h2⟩
  · split
    · exact ⟨k1, k2⟩
    · unfold I64s; constructor <;> dsimp only <;> split <;> assumption
theorem foldS_i64 {f : Sp → Sp → Sp} (hf : ∀ x y, I64s x → I64s y → I64s (f x y)) : ∀ (l : List Sp) (a : Sp), I64s a → (∀ s ∈ l, I64s s) → I64s (l.foldl f a)
  | [], a, h, _ => h
  | x :: l, a, h, k => foldS_i64 hf l _ (hf a x h (k x (by simp))) (fun s hs => k s (by simp [hs]))
theorem i64s_10 : I64s (1, 0) := ⟨by unfold I64; omega, by unfold I64; omega⟩
theorem i64s_all : I64s (-9223372036854775808, 9223372036854775807) := ⟨by unfold I64; omega, by unfold I64; omega⟩
theorem meetL_i64 {l : List Sp} (h : ∀ s ∈ l, I64s s) : I64s (meetL l) := canon_i64 (foldS_i64 (fun _ _ => meetS_i64) l _ i64s_all h)
theorem covL_i64 {l : List Sp} (h : ∀ s ∈ l, I64s s) : I64s (covL l) := foldS_i64 (fun _ _ => covS_i64) l _ i64s_10 h
theorem inn_canon (x : Sp) (t : Int) : Inn (canon x) t ↔ Inn x t := by
  unfold canon Inn; split
  · dsimp only; omega
  · rfl
theorem inn_meetS (x y : Sp) (t : Int) : Inn (meetS x y) t ↔ Inn x t ∧ Inn y t := by
  unfold meetS Inn; dsimp only
  repeat' split
  all_goals omega
theorem inn_foldM (t : Int) : ∀ (l : List Sp) (a : Sp), Inn (l.foldl meetS a) t ↔ Inn a t ∧ ∀ s ∈ l, Inn s t
  | [], a => by simp
  | x :: l, a => by rw [List.foldl_cons, inn_foldM t l, inn_meetS]; simp [and_assoc]
theorem inn_meetL (l : List Sp) (t : Int) (ht : I64 t) : Inn (meetL l) t ↔ ∀ s ∈ l, Inn s t := by
  unfold meetL
  rw [inn_canon, inn_foldM]
  exact ⟨fun h => h.2, fun h => ⟨ht, h⟩⟩
theorem inn_covS {x y : Sp} {t : Int} (h : Inn x t ∨ Inn y t) : Inn (covS x y) t := by
  unfold covS Inn at *
  repeat' split
  all_goals ((try dsimp only at *); first | omega | (constructor <;> split <;> omega))
theorem inn_foldC (t : Int) : ∀ (l : List Sp) (a : Sp), Inn a t ∨ Anyp l t → Inn (l.foldl covS a) t
  | [], a, h => by
    rcases h with h | ⟨s, hs, _⟩
    · exact h
    · simp at hs
  | x :: l, a, h => by
    rw [List.foldl_cons]
    refine inn_foldC t l _ ?_
    rcases h with h | ⟨s, hs, hi⟩
    · exact .inl (inn_covS (.inl h))
    · rcases List.mem_cons.1 hs with rfl | hs
      · exact .inl (inn_covS (.inr hi))
      · exact .inr ⟨s, hs, hi⟩
theorem inn_covL {l : List Sp} {t : Int} (h : Anyp l t) : Inn (covL l) t := inn_foldC t l _ (.inr h)

/-! ### lists in order -/
def Ordp (l : List Sp) : Prop := (∀ s ∈ l, s.1 ≤ s.2) ∧ l.Pairwise (fun a b => a.2 + 1 < b.1)
def nStep (out : List Sp) (s : Sp) : List Sp := match out.getLast? with
  | none => out ++ [s]
  | some q => if pls q.2 1 < s.1 then out ++ [s] else out.dropLast ++ [covL [q, s]]
theorem anyp_append (a b : List Sp) (t : Int) : Anyp (a ++ b) t ↔ Anyp a t ∨ Anyp b t := by
  unfold Anyp; constructor
  · rintro ⟨s, hs, h⟩
    rcases List.mem_append.1 hs with k | k
    · exact .inl ⟨s, k, h⟩
    · exact .inr ⟨s, k, h⟩
  · rintro (⟨s, hs, h⟩ | ⟨s, hs, h⟩)
    · exact ⟨s, List.mem_append.2 (.inl hs), h⟩
    · exact ⟨s, List.mem_append.2 (.inr hs), h⟩
theorem anyp_one (s : Sp) (t : Int) : Anyp [s] t ↔ Inn s t := by unfold Anyp; simp
theorem anyp_cons (s : Sp) (l : List Sp) (t : Int) : Anyp (s :: l) t ↔ Inn s t ∨ Anyp l t := by unfold Anyp; simp
theorem nStep_ok (out : List Sp) (s : Sp) (ho : Ordp out) (hs : s.1 ≤ s.2) (hs64 : I64s s) (hq : ∀ q ∈ out, q.1 ≤ s.1) (h64 : ∀ q ∈ out, I64s q) :
    Ordp (nStep out s) ∧ (∀ t, Anyp (nStep out s) t ↔ Anyp out t ∨ Inn s t) ∧ (∀ q ∈ nStep out s, I64s q) ∧ (∀ q ∈ nStep out s, q.1 ≤ s.1) := by
  rcases List.eq_nil_or_concat out with rfl | ⟨pre, q, rfl⟩
  · refine ⟨⟨by simp [nStep]; exact hs, by simp [nStep]⟩, fun t => by simp [nStep, Anyp], by simp [nStep]; exact hs64, by simp [nStep]⟩
  · rw [List.concat_eq_append] at *
    obtain ⟨hn, hp⟩ := ho
    have hqn := hn q (by simp)
    have hq1 := hq q (by simp)
    have hq64 := h64 q (by simp)
    rw [List.pairwise_append] at hp
    obtain ⟨hp1, _, hp2⟩ := hp
    unfold nStep
    rw [List.getLast?_concat]
    dsimp only
    have hpl : pls q.2 1 < s.1 ↔ q.2 + 1 < s.1 := by
      obtain ⟨⟨_, h1⟩, h2, h3⟩ := hs64
      obtain ⟨_, h4, h5⟩ := hq64
      unfold pls sat
      repeat' split
      all_goals omega
    by_cases hc : pls q.2 1 < s.1
    · rw [if_pos hc]
      rw [hpl] at hc
      refine ⟨⟨?_, ?_⟩, fun t => ?_, ?_, ?_⟩
      · intro x hx
        rcases List.mem_append.1 hx with k | k
        · exact hn x k
        · simp at k; subst k; exact hs
      · rw [List.pairwise_append]
        refine ⟨by rw [List.pairwise_append]; exact ⟨hp1, by simp, hp2⟩, by simp, ?_⟩
        intro a ha b hb
        simp at hb; subst hb
        rcases List.mem_append.1 ha with k | k
        · have := hp2 a k q (by simp); omega
        · simp at k; subst k; exact hc
      · rw [anyp_append, anyp_one]
      · intro x hx
        rcases List.mem_append.1 hx with k | k
        · exact h64 x k
        · simp at k; subst k; exact hs64
      · intro x hx
        rcases List.mem_append.1 hx with k | k
        · exact hq x k
        · simp at k; subst k; exact Int.le_refl _
    · rw [if_neg hc]
      rw [hpl] at hc
      have hcv : covL [q, s] = covS q s := by
        have h1 : covS (1, 0) q = q := by
          unfold covS
          rw [if_neg (by omega), if_pos (by dsimp only; omega)]
        show covS (covS (1, 0) q) s = _
        rw [h1]
      rw [List.dropLast_concat, hcv]
      have hcov : (covS q s).1 = q.1 ∧ q.2 ≤ (covS q s).2 ∧ s.2 ≤ (covS q s).2 ∧ ((covS q s).2 = q.2 ∨ (covS q s).2 = s.2) := by
        unfold covS
        rw [if_neg (by omega), if_neg (by omega)]
        refine ⟨?_, ?_, ?_, ?_⟩ <;> dsimp only <;> split <;> omega
      obtain ⟨c1, c2, c3, c4⟩ := hcov
      refine ⟨⟨?_, ?_⟩, fun t => ?_, ?_, ?_⟩
      · intro x hx
        rcases List.mem_append.1 hx with k | k
        · exact hn x (by simp [k])
        · simp at k; subst k; omega
      · rw [List.pairwise_append]
        refine ⟨hp1, by simp, ?_⟩
        intro a ha b hb
        simp at hb; subst hb
        have := hp2 a ha q (by simp); omega
      · rw [anyp_append, anyp_append, anyp_one, anyp_one, or_assoc]
        refine or_congr_right ?_
        unfold Inn
        omega
      · intro x hx
        rcases List.mem_append.1 hx with k | k
        · exact h64 x (by simp [k])
        · simp at k; subst k; exact covS_i64 hq64 hs64
      · intro x hx
        rcases List.mem_append.1 hx with k | k
        · exact hq x (by simp [k])
        · simp at k; subst k; omega
theorem nFold_ok : ∀ (S out : List Sp), Ordp out → (∀ s ∈ S, s.1 ≤ s.2 ∧ I64s s) → S.Pairwise (fun a b => a.1 ≤ b.1) → (∀ q ∈ out, ∀ s ∈ S, q.1 ≤ s.1) → (∀ q ∈ out, I64s q) →
    Ordp (S.foldl nStep out) ∧ (∀ t, Anyp (S.foldl nStep out) t ↔ Anyp out t ∨ Anyp S t) ∧ (∀ q ∈ S.foldl nStep out, I64s q)
  | [], out, ho, _, _, _, h64 => ⟨ho, fun t => by simp [Anyp], h64⟩
  | s :: S, out, ho, hS, hp, hq, h64 => by
    rw [List.pairwise_cons] at hp
    obtain ⟨k1, k2, k3, k4⟩ := nStep_ok out s ho (hS s (by simp)).1 (hS s (by simp)).2 (fun q h => hq q h s (by simp)) h64
    obtain ⟨r1, r2, r3⟩ := nFold_ok S (nStep out s) k1 (fun x hx => hS x (by simp [hx])) hp.2 (fun q h x hx => Int.le_trans (k4 q h) (hp.1 x hx)) k3
    refine ⟨r1, fun t => ?_, r3⟩
    rw [List.foldl_cons, r2, k2, anyp_cons, or_assoc]
theorem nStep_len (out : List Sp) (s : Sp) : (nStep out s).length ≤ out.length + 1 := by
  unfold nStep
  rcases List.eq_nil_or_concat out with rfl | ⟨pre, q, rfl⟩
  · simp
  · rw [List.concat_eq_append, List.getLast?_concat]; dsimp only; split <;> simp
theorem ordp_head {x : Sp} {l : List Sp} (h : Ordp (x :: l)) : x.1 ≤ x.2 ∧ Ordp l ∧ ∀ z ∈ l, x.2 + 1 < z.1 ∧ z.1 ≤ z.2 := by
  obtain ⟨h1, h2⟩ := h
  rw [List.pairwise_cons] at h2
  exact ⟨h1 x (by simp), ⟨fun s hs => h1 s (by simp [hs]), h2.2⟩, fun z hz => ⟨h2.1 z hz, h1 z (by simp [hz])⟩⟩
/-- A list in order is told by its seconds. -/
theorem ordp_unique : ∀ (a b : List Sp), Ordp a → Ordp b → (∀ t, Anyp a t ↔ Anyp b t) → a = b
  | [], [], _, _, _ => rfl
  | [], y :: ys, _, hb, h => by
    have := (h y.1).2 ⟨y, by simp, Int.le_refl _, (ordp_head hb).1⟩
    simp [Anyp] at this
  | x :: xs, [], ha, _, h => by
    have := (h x.1).1 ⟨x, by simp, Int.le_refl _, (ordp_head ha).1⟩
    simp [Anyp] at this
  | x :: xs, y :: ys, ha, hb, h => by
    obtain ⟨a1, a2, a3⟩ := ordp_head ha
    obtain ⟨b1, b2, b3⟩ := ordp_head hb
    have lo : ∀ {x y : Sp} {xs ys : List Sp}, x.1 ≤ x.2 → y.1 ≤ y.2 → (∀ z ∈ ys, y.2 + 1 < z.1 ∧ z.1 ≤ z.2) → (Anyp (x :: xs) x.1 → Anyp (y :: ys) x.1) → y.1 ≤ x.1 := by
      intro x y xs ys hx hy hz hi
      obtain ⟨z, hm, h1, h2⟩ := hi ⟨x, by simp, Int.le_refl _, hx⟩
      rcases List.mem_cons.1 hm with rfl | hm
      · exact h1
      · have := hz z hm; omega
    have e1 : x.1 = y.1 := by
      have p1 := lo (xs := xs) a1 b1 b3 (h x.1).1
      have p2 := lo (xs := ys) b1 a1 a3 (h y.1).2
      omega
    have hi : ∀ {x y : Sp} {xs ys : List Sp}, x.1 ≤ x.2 → x.1 = y.1 → (∀ z ∈ xs, x.2 + 1 < z.1 ∧ z.1 ≤ z.2) → (Anyp (y :: ys) (x.2 + 1) → Anyp (x :: xs) (x.2 + 1)) → y.2 ≤ x.2 := by
      intro x y xs ys hx e hz hi
      rcases Int.lt_or_le x.2 y.2 with hlt | hle
      · obtain ⟨z, hm, h1, h2⟩ := hi ⟨y, by simp, by omega, by omega⟩
        rcases List.mem_cons.1 hm with rfl | hm
        · omega
        · have := hz z hm; omega
      · exact hle
    have e2 : x.2 = y.2 := by
      have p1 := hi (ys := ys) a1 e1 a3 (h (x.2 + 1)).2
      have p2 := hi (ys := xs) b1 e1.symm b3 (h (y.2 + 1)).1
      omega
    have e : x = y := Prod.ext e1 e2
    subst e
    congr 1
    refine ordp_unique xs ys a2 b2 fun t => ⟨?_, ?_⟩
    · rintro ⟨z, hm, h1, h2⟩
      have := a3 z hm
      rcases (anyp_cons _ _ _).1 ((h t).1 ⟨z, by simp [hm], h1, h2⟩) with k | k
      · unfold Inn at k; omega
      · exact k
    · rintro ⟨z, hm, h1, h2⟩
      have := b3 z hm
      rcases (anyp_cons _ _ _).1 ((h t).2 ⟨z, by simp [hm], h1, h2⟩) with k | k
      · unfold Inn at k; omega
      · exact k
theorem inn_sub1 {t u : Int} (hu : I64 u) : Inn (sub1 t) u ↔ u < t := by
  unfold sub1 Inn; unfold I64 at hu
  split <;> dsimp only <;> omega
theorem inn_add1 {t u : Int} (hu : I64 u) : Inn (add1 t) u ↔ t < u := by
  unfold add1 Inn; unfold I64 at hu
  split <;> dsimp only <;> omega
theorem sub1_i64 {t : Int} (h : I64 t) : I64s (sub1 t) := by
  unfold sub1; unfold I64 at h
  split
  · exact i64s_10
  · exact ⟨by unfold I64; omega, by unfold I64; dsimp only; omega⟩
theorem add1_i64 {t : Int} (h : I64 t) : I64s (add1 t) := by
  unfold add1; unfold I64 at h
  split
  · exact i64s_10
  · exact ⟨by unfold I64; dsimp only; omega, by unfold I64; omega⟩
/-- What Without gathers. -/
def wStep (s : Sp) (out : List Sp) (x : Sp) : List Sp := out ++ [meetL [x, sub1 s.1], meetL [x, add1 s.2]]
def wList (l : List Sp) (s : Sp) : List Sp := l.foldl (wStep s) []
theorem wStep_fold (s : Sp) : ∀ (l out : List Sp), l.foldl (wStep s) out = out ++ l.flatMap (fun x => [meetL [x, sub1 s.1], meetL [x, add1 s.2]])
  | [], out => by simp
  | x :: l, out => by rw [List.foldl_cons, wStep_fold s l]; simp [wStep]
theorem wList_eq (l : List Sp) (s : Sp) : wList l s = l.flatMap (fun x => [meetL [x, sub1 s.1], meetL [x, add1 s.2]]) := by
  unfold wList; rw [wStep_fold]; simp
theorem wList_i64 {l : List Sp} {s : Sp} (h : ∀ x ∈ l, I64s x) (hs : I64s s) : ∀ x ∈ wList l s, I64s x := by
  rw [wList_eq]
  intro x hx
  obtain ⟨y, hy, hm⟩ := List.mem_flatMap.1 hx
  simp at hm
  rcases hm with rfl | rfl
  · refine meetL_i64 ?_
    intro z hz; simp at hz
    rcases hz with rfl | rfl
    · exact h _ hy
    · exact sub1_i64 hs.1
  · refine meetL_i64 ?_
    intro z hz; simp at hz
    rcases hz with rfl | rfl
    · exact h _ hy
    · exact add1_i64 hs.2
theorem anyp_wList {l : List Sp} {s : Sp} (h : ∀ x ∈ l, I64s x) (t : Int) : Anyp (wList l s) t ↔ Anyp l t ∧ ¬ Inn s t := by
  rw [wList_eq]
  constructor
  · rintro ⟨x, hx, hi⟩
    obtain ⟨y, hy, hm⟩ := List.mem_flatMap.1 hx
    have hxi : I64 t → Inn y t ∧ ¬ Inn s t := by
      intro ht
      simp at hm
      rcases hm with rfl | rfl
      · rw [inn_meetL _ _ ht] at hi
        have h1 := hi y (by simp)
        have h2 := hi (sub1 s.1) (by simp)
        rw [inn_sub1 ht] at h2
        exact ⟨h1, fun k => by unfold Inn at k; omega⟩
      · rw [inn_meetL _ _ ht] at hi
        have h1 := hi y (by simp)
        have h2 := hi (add1 s.2) (by simp)
        rw [inn_add1 ht] at h2
        exact ⟨h1, fun k => by unfold Inn at k; omega⟩
    have ht : I64 t := by
      simp at hm
      have hfold : ∀ l : List Sp, Inn (meetL l) t → I64 t := by
        intro l hl
        unfold meetL at hl
        rw [inn_canon, inn_foldM] at hl
        exact hl.1
      rcases hm with rfl | rfl
      · exact hfold _ hi
      · exact hfold _ hi
    obtain ⟨h1, h2⟩ := hxi ht
    exact ⟨⟨y, hy, h1⟩, h2⟩
  · rintro ⟨⟨y, hy, hi⟩, hn⟩
    have ht : I64 t := by
      obtain ⟨⟨_, _⟩, _, _⟩ := h y hy
      unfold Inn at hi; unfold I64 at *; omega
    rcases Int.lt_or_le t s.1 with hlt | hle
    · refine ⟨meetL [y, sub1 s.1], List.mem_flatMap.2 ⟨y, hy, by simp⟩, ?_⟩
      rw [inn_meetL _ _ ht]
      intro z hz; simp at hz
      rcases hz with rfl | rfl
      · exact hi
      · rw [inn_sub1 ht]; exact hlt
    · refine ⟨meetL [y, add1 s.2], List.mem_flatMap.2 ⟨y, hy, by simp⟩, ?_⟩
      rw [inn_meetL _ _ ht]
      intro z hz; simp at hz
      rcases hz with rfl | rfl
      · exact hi
      · rw [inn_add1 ht]; unfold Inn at hn; omega
/-- What Norm takes: those that aren't empty. -/
def nonE (l : List Sp) : List Sp := l.filter (fun s => !decide (s.2 < s.1))
theorem anyp_nonE (l : List Sp) (t : Int) : Anyp (nonE l) t ↔ Anyp l t := by
  unfold nonE
  constructor
  · rintro ⟨s, hs, hi⟩
    exact ⟨s, (List.mem_filter.1 hs).1, hi⟩
  · rintro ⟨s, hs, hi⟩
    refine ⟨s, List.mem_filter.2 ⟨hs, ?_⟩, hi⟩
    unfold Inn at hi; simp; omega
theorem anyp_perm {a b : List Sp} (h : a.Perm b) (t : Int) : Anyp a t ↔ Anyp b t := by
  unfold Anyp; constructor
  · rintro ⟨s, hs, hi⟩; exact ⟨s, h.mem_iff.1 hs, hi⟩
  · rintro ⟨s, hs, hi⟩; exact ⟨s, h.mem_iff.2 hs, hi⟩
/-- The list in order of the seconds of l. -/
def IsNorm (l r : List Sp) : Prop := Ordp r ∧ (∀ t, Anyp r t ↔ Anyp l t) ∧ (∀ q ∈ r, I64s q) ∧ r.length ≤ l.length
theorem nFold_len : ∀ (S out : List Sp), (S.foldl nStep out).length ≤ out.length + S.length
  | [], out => by simp
  | s :: S, out => by
    have h1 := nFold_len S (nStep out s)
    have h2 := nStep_len out s
    rw [List.foldl_cons, List.length_cons]; omega
theorem isNorm_of {l S : List Sp} (h64 : ∀ s ∈ l, I64s s) (hp : S.Perm (nonE l)) (hs : S.Pairwise (fun a b => a.1 ≤ b.1)) : IsNorm l (S.foldl nStep []) := by
  have hm : ∀ s ∈ S, s.1 ≤ s.2 ∧ I64s s := by
    intro s h
    have h1 := hp.mem_iff.1 h
    unfold nonE at h1
    obtain ⟨h2, h3⟩ := List.mem_filter.1 h1
    simp at h3
    exact ⟨by omega, h64 s h2⟩
  obtain ⟨k1, k2, k3⟩ := nFold_ok S [] ⟨by simp, by simp⟩ hm hs (by simp) (by simp)
  refine ⟨k1, fun t => ?_, k3, ?_⟩
  · rw [k2, anyp_perm hp, anyp_nonE]; simp [Anyp]
  · have h1 := nFold_len S []
    have h2 := hp.length_eq
    have h3 : (nonE l).length ≤ l.length := List.length_filter_le _ _
    simp at h1; omega
theorem isNorm_unique {l r q : List Sp} (h : IsNorm l r) (ho : Ordp q) (hq : ∀ t, Anyp q t ↔ Anyp l t) : r = q := ordp_unique r q h.1 ho fun t => (h.2.1 t).trans (hq t).symm
theorem isNorm_again {l r : List Sp} (h : IsNorm l r) {r' : List Sp} (h' : IsNorm r r') : r' = r := isNorm_unique h' h.1 fun t => Iff.rfl
end Go.Proofs.Ytlmmoinmlcpmnaa
