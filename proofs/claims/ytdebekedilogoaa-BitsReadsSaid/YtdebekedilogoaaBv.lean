/-
  The contracts of layer 5's reference: Read, a theorem a kind.
-/
import Derived.Test.YtdebekedilogoaaBu
namespace Go.Proofs.Ytdebekedilogoaa
open Go.RowKit
set_option linter.unusedVariables false
set_option linter.unusedSimpArgs false
set_option maxRecDepth 4000

/-- What the reference's Read hands back. -/
def RdV (w : World) (x : List UInt8) (p : Nat) (E : Int) (e : Ending) (w' : World) : Prop :=
  ∃ X m d, e = .returned (.tuple #[.slice X m d, .int .i64 (p : Int), .int .i64 E]) ∧ Bs w' X m x ∧ m ≤ d ∧ Below w.heap.size w w'

set_option maxHeartbeats 3200000 in
theorem rd0Err (A : Option Addr) (n c : Nat) (l : List UInt8) (w : World) (h : Bs w A n l) (hc : n ≤ c) (hn : n ≤ 1099511) (q : (rOpen l 0 (tg5 3)).2.2 ≠ 0) :
    Calls Try.prog 30 #[.slice A n c, .int .i64 0, .int .i64 0] w (RdV w [] 0 (rOpen l 0 (tg5 3)).2.2) := by
  have b0 := below_alloc1 w (.cells #[.int .i64 3, .int .i64 1, .int .i64 5, .int .i64 4] 3)
  have hK := Blk.new w [.int .i64 3, .int .i64 1, .int .i64 5, .int .i64 4] 3
  have h0 := h.below b0
  have k0 : (w.alloc (.cells #[.int .i64 3, .int .i64 1, .int .i64 5, .int .i64 4] 3)).cell? ⟨w.heap.size, 0, none⟩ = some (.int .i64 3) := hK.cell 0
  go_enter Try.func30, Try.ntmps30
  go_upto_region 2 with (fail)
  generalize (w.alloc (Obj.cells #[.int .i64 3, .int .i64 1, .int .i64 5, .int .i64 4] 3)) = W0 at *
  go_wp2_with fail
  refine (refOf 3 _).mono ?_
  rintro e w1 ⟨rfl, b1⟩
  have h1 := h0.below b1
  have b1 := below_st b0 b1
  have O := refOpen A n c 0 0 l (tg5 3) w1 h1 (by omega) hc (by omega) rfl
  unfold OpenV at O
  go_wp2_with fail
  refine O.mono ?_
  rintro e w2 ⟨A2, n2, c2, rfl, s2, hc2, b2⟩
  have b2 := below_st b1 b2
  clear O h1 b1 h0 b0 hK k0
  generalize rOpen l 0 (tg5 3) = T at *
  obtain ⟨ct, k', E⟩ := T
  simp only at q s2 ⊢
  have e1 : (E != 0) = true := by simpa using q
  have e2 : (E == 0) = false := by simpa using q
  go_wp2
  go_ret3
  exact ⟨none, 0, 0, rfl, Bs.nil _ _, Nat.le_refl _, b2⟩

set_option maxHeartbeats 3200000 in
theorem rd0Ok (A : Option Addr) (n c : Nat) (l : List UInt8) (w : World) (h : Bs w A n l) (hc : n ≤ c) (hn : n ≤ 1099511) (ct : List UInt8) (k' : Nat) (hT : rOpen l 0 (tg5 3) = (ct, k', 0)) (u : Int) (t : List UInt8) (hp : prsS ct = some (u, t)) :
    Calls Try.prog 30 #[.slice A n c, .int .i64 0, .int .i64 0] w (RdV w ct k' 0) := by
  have b0 := below_alloc1 w (.cells #[.int .i64 3, .int .i64 1, .int .i64 5, .int .i64 4] 3)
  have hK := Blk.new w [.int .i64 3, .int .i64 1, .int .i64 5, .int .i64 4] 3
  have h0 := h.below b0
  have k0 : (w.alloc (.cells #[.int .i64 3, .int .i64 1, .int .i64 5, .int .i64 4] 3)).cell? ⟨w.heap.size, 0, none⟩ = some (.int .i64 3) := hK.cell 0
  have hctl : ct.length ≤ l.length := by have := rOpen_len l 0 (tg5 3); rw [hT] at this; exact this
  have hl := h.len
  go_enter Try.func30, Try.ntmps30
  go_upto_region 2 with (fail)
  generalize (w.alloc (Obj.cells #[.int .i64 3, .int .i64 1, .int .i64 5, .int .i64 4] 3)) = W0 at *
  go_wp2_with fail
  refine (refOf 3 _).mono ?_
  rintro e w1 ⟨rfl, b1⟩
  have h1 := h0.below b1
  have b1 := below_st b0 b1
  have O := refOpen A n c 0 0 l (tg5 3) w1 h1 (by omega) hc (by omega) rfl
  unfold OpenV at O
  rw [hT] at O
  go_wp2_with fail
  refine O.mono ?_
  rintro e w2 ⟨A2, n2, c2, rfl, s2, hc2, b2⟩
  have b2 := below_st b1 b2
  clear O h1 b1 h0 b0 hK k0 hT
  have hn2 : n2 ≤ 1099511 := by have := s2.len; omega
  simp only at s2 ⊢
  go_wp2_with fail
  refine (rf5Parse A2 n2 c2 ct w2 s2 hc2 hn2).mono ?_
  rintro e w3 ⟨hy, _, b3⟩
  obtain ⟨A3, n3, c3, rfl, _⟩ := hy u t hp
  have s3 := s2.below b3
  have b3 := below_st b2 b3
  clear hy
  go_wp2
  go_ret3
  exact ⟨A2, n2, c2, rfl, s3, hc2, b3⟩

set_option maxHeartbeats 3200000 in
theorem rd0No (A : Option Addr) (n c : Nat) (l : List UInt8) (w : World) (h : Bs w A n l) (hc : n ≤ c) (hn : n ≤ 1099511) (ct : List UInt8) (k' : Nat) (hT : rOpen l 0 (tg5 3) = (ct, k', 0)) (hp : prsS ct = none) :
    Calls Try.prog 30 #[.slice A n c, .int .i64 0, .int .i64 0] w (RdV w [] 0 6) := by
  have b0 := below_alloc1 w (.cells #[.int .i64 3, .int .i64 1, .int .i64 5, .int .i64 4] 3)
  have hK := Blk.new w [.int .i64 3, .int .i64 1, .int .i64 5, .int .i64 4] 3
  have h0 := h.below b0
  have k0 : (w.alloc (.cells #[.int .i64 3, .int .i64 1, .int .i64 5, .int .i64 4] 3)).cell? ⟨w.heap.size, 0, none⟩ = some (.int .i64 3) := hK.cell 0
  have hctl : ct.length ≤ l.length := by have := rOpen_len l 0 (tg5 3); rw [hT] at this; exact this
  have hl := h.len
  go_enter Try.func30, Try.ntmps30
  go_upto_region 2 with (fail)
  generalize (w.alloc (Obj.cells #[.int .i64 3, .int .i64 1, .int .i64 5, .int .i64 4] 3)) = W0 at *
  go_wp2_with fail
  refine (refOf 3 _).mono ?_
  rintro e w1 ⟨rfl, b1⟩
  have h1 := h0.below b1
  have b1 := below_st b0 b1
  have O := refOpen A n c 0 0 l (tg5 3) w1 h1 (by omega) hc (by omega) rfl
  unfold OpenV at O
  rw [hT] at O
  go_wp2_with fail
  refine O.mono ?_
  rintro e w2 ⟨A2, n2, c2, rfl, s2, hc2, b2⟩
  have b2 := below_st b1 b2
  clear O h1 b1 h0 b0 hK k0 hT
  have hn2 : n2 ≤ 1099511 := by have := s2.len; omega
  simp only at s2 ⊢
  go_wp2_with fail
  refine (rf5Parse A2 n2 c2 ct w2 s2 hc2 hn2).mono ?_
  rintro e w3 ⟨_, hno, b3⟩
  obtain rfl := hno hp
  have b3 := below_st b2 b3
  clear hno
  go_wp2
  go_ret3
  exact ⟨none, 0, 0, rfl, Bs.nil _ _, Nat.le_refl _, b3⟩

set_option maxHeartbeats 3200000 in
theorem rd1Err (A : Option Addr) (n c : Nat) (l : List UInt8) (w : World) (h : Bs w A n l) (hc : n ≤ c) (hn : n ≤ 1099511) (q : (rOpen l 0 (tg5 1)).2.2 ≠ 0) :
    Calls Try.prog 30 #[.slice A n c, .int .i64 0, .int .i64 1] w (RdV w [] 0 (rOpen l 0 (tg5 1)).2.2) := by
  have b0 := below_alloc1 w (.cells #[.int .i64 3, .int .i64 1, .int .i64 5, .int .i64 4] 3)
  have hK := Blk.new w [.int .i64 3, .int .i64 1, .int .i64 5, .int .i64 4] 3
  have h0 := h.below b0
  have k0 : (w.alloc (.cells #[.int .i64 3, .int .i64 1, .int .i64 5, .int .i64 4] 3)).cell? ⟨w.heap.size, 1, none⟩ = some (.int .i64 1) := hK.cell 1
  go_enter Try.func30, Try.ntmps30
  go_upto_region 2 with (fail)
  generalize (w.alloc (Obj.cells #[.int .i64 3, .int .i64 1, .int .i64 5, .int .i64 4] 3)) = W0 at *
  go_wp2_with fail
  refine (refOf 1 _).mono ?_
  rintro e w1 ⟨rfl, b1⟩
  have h1 := h0.below b1
  have b1 := below_st b0 b1
  have O := refOpen A n c 0 0 l (tg5 1) w1 h1 (by omega) hc (by omega) rfl
  unfold OpenV at O
  go_wp2_with fail
  refine O.mono ?_
  rintro e w2 ⟨A2, n2, c2, rfl, s2, hc2, b2⟩
  have b2 := below_st b1 b2
  clear O h1 b1 h0 b0 hK k0
  generalize rOpen l 0 (tg5 1) = T at *
  obtain ⟨ct, k', E⟩ := T
  simp only at q s2 ⊢
  have e1 : (E != 0) = true := by simpa using q
  have e2 : (E == 0) = false := by simpa using q
  go_wp2
  go_ret3
  exact ⟨none, 0, 0, rfl, Bs.nil _ _, Nat.le_refl _, b2⟩

set_option maxHeartbeats 3200000 in
theorem rd1Ok (A : Option Addr) (n c : Nat) (l : List UInt8) (w : World) (h : Bs w A n l) (hc : n ≤ c) (hn : n ≤ 1099511) (ct : List UInt8) (k' : Nat) (hT : rOpen l 0 (tg5 1) = (ct, k', 0)) (hp : (prsB ct).2 = 0) :
    Calls Try.prog 30 #[.slice A n c, .int .i64 0, .int .i64 1] w (RdV w ct k' 0) := by
  have b0 := below_alloc1 w (.cells #[.int .i64 3, .int .i64 1, .int .i64 5, .int .i64 4] 3)
  have hK := Blk.new w [.int .i64 3, .int .i64 1, .int .i64 5, .int .i64 4] 3
  have h0 := h.below b0
  have k0 : (w.alloc (.cells #[.int .i64 3, .int .i64 1, .int .i64 5, .int .i64 4] 3)).cell? ⟨w.heap.size, 1, none⟩ = some (.int .i64 1) := hK.cell 1
  have hctl : ct.length ≤ l.length := by have := rOpen_len l 0 (tg5 1); rw [hT] at this; exact this
  have hl := h.len
  go_enter Try.func30, Try.ntmps30
  go_upto_region 2 with (fail)
  generalize (w.alloc (Obj.cells #[.int .i64 3, .int .i64 1, .int .i64 5, .int .i64 4] 3)) = W0 at *
  go_wp2_with fail
  refine (refOf 1 _).mono ?_
  rintro e w1 ⟨rfl, b1⟩
  have h1 := h0.below b1
  have b1 := below_st b0 b1
  have O := refOpen A n c 0 0 l (tg5 1) w1 h1 (by omega) hc (by omega) rfl
  unfold OpenV at O
  rw [hT] at O
  go_wp2_with fail
  refine O.mono ?_
  rintro e w2 ⟨A2, n2, c2, rfl, s2, hc2, b2⟩
  have b2 := below_st b1 b2
  clear O h1 b1 h0 b0 hK k0 hT
  have hn2 : n2 ≤ 1099511 := by have := s2.len; omega
  simp only at s2 ⊢
  have hone : ct.length = 1 := by
    by_cases h1 : ct.length = 1
    · exact h1
    · have := prsB_long h1; rw [this] at hp; simp at hp
  have hn1 : n2 = 1 := by have := s2.len; omega
  subst hn1
  obtain ⟨b', o, rfl, hcell⟩ := s2.at_ (k := 0) (by omega)
  rw [Nat.add_zero] at hcell
  have hF := prsB_one hone
  by_cases z0 : nth ct 0 = 0
  · rw [z0] at hcell
    clear hF hp hone
    go_wp2
    go_ret3
    exact ⟨_, _, _, rfl, s2, hc2, b2⟩
  · by_cases z1 : nth ct 0 = 255
    · rw [z1] at hcell
      clear hF hp hone z0
      go_wp2
      go_ret3
      exact ⟨_, _, _, rfl, s2, hc2, b2⟩
    · rw [hF, if_neg z0, if_neg z1] at hp; simp at hp

set_option maxHeartbeats 3200000 in
theorem rd1No (A : Option Addr) (n c : Nat) (l : List UInt8) (w : World) (h : Bs w A n l) (hc : n ≤ c) (hn : n ≤ 1099511) (ct : List UInt8) (k' : Nat) (hT : rOpen l 0 (tg5 1) = (ct, k', 0)) (hp : (prsB ct).2 = 6) :
    Calls Try.prog 30 #[.slice A n c, .int .i64 0, .int .i64 1] w (RdV w [] 0 6) := by
  have b0 := below_alloc1 w (.cells #[.int .i64 3, .int .i64 1, .int .i64 5, .int .i64 4] 3)
  have hK := Blk.new w [.int .i64 3, .int .i64 1, .int .i64 5, .int .i64 4] 3
  have h0 := h.below b0
  have k0 : (w.alloc (.cells #[.int .i64 3, .int .i64 1, .int .i64 5, .int .i64 4] 3)).cell? ⟨w.heap.size, 1, none⟩ = some (.int .i64 1) := hK.cell 1
  have hctl : ct.length ≤ l.length := by have := rOpen_len l 0 (tg5 1); rw [hT] at this; exact this
  have hl := h.len
  go_enter Try.func30, Try.ntmps30
  go_upto_region 2 with (fail)
  generalize (w.alloc (Obj.cells #[.int .i64 3, .int .i64 1, .int .i64 5, .int .i64 4] 3)) = W0 at *
  go_wp2_with fail
  refine (refOf 1 _).mono ?_
  rintro e w1 ⟨rfl, b1⟩
  have h1 := h0.below b1
  have b1 := below_st b0 b1
  have O := refOpen A n c 0 0 l (tg5 1) w1 h1 (by omega) hc (by omega) rfl
  unfold OpenV at O
  rw [hT] at O
  go_wp2_with fail
  refine O.mono ?_
  rintro e w2 ⟨A2, n2, c2, rfl, s2, hc2, b2⟩
  have b2 := below_st b1 b2
  clear O h1 b1 h0 b0 hK k0 hT
  have hn2 : n2 ≤ 1099511 := by have := s2.len; omega
  simp only at s2 ⊢
  by_cases hn1 : n2 = 1
  · have hone : ct.length = 1 := by have := s2.len; omega
    subst hn1
    obtain ⟨b', o, rfl, hcell⟩ := s2.at_ (k := 0) (by omega)
    rw [Nat.add_zero] at hcell
    have hF := prsB_one hone
    by_cases z0 : nth ct 0 = 0
    · rw [hF, if_pos z0] at hp; simp at hp
    · by_cases z1 : nth ct 0 = 255
      · rw [hF, if_neg z0, if_pos z1] at hp; simp at hp
      · have e0 : (nth ct 0 == 0) = false := by simpa using z0
        have e1 : (nth ct 0 == 255) = false := by simpa using z1
        clear z0 z1 hF hp hone
        go_wp2
        go_ret3
        exact ⟨none, 0, 0, rfl, Bs.nil _ _, Nat.le_refl _, b2⟩
  · have e0 : ((n2 : Int) == 1) = false := by simp; omega
    clear hn1
    go_wp2
    go_ret3
    exact ⟨none, 0, 0, rfl, Bs.nil _ _, Nat.le_refl _, b2⟩

set_option maxHeartbeats 3200000 in
theorem rd2Err (A : Option Addr) (n c : Nat) (l : List UInt8) (w : World) (h : Bs w A n l) (hc : n ≤ c) (hn : n ≤ 1099511) (q : (rOpen l 0 (tg5 5)).2.2 ≠ 0) :
    Calls Try.prog 30 #[.slice A n c, .int .i64 0, .int .i64 2] w (RdV w [] 0 (rOpen l 0 (tg5 5)).2.2) := by
  have b0 := below_alloc1 w (.cells #[.int .i64 3, .int .i64 1, .int .i64 5, .int .i64 4] 3)
  have hK := Blk.new w [.int .i64 3, .int .i64 1, .int .i64 5, .int .i64 4] 3
  have h0 := h.below b0
  have k0 : (w.alloc (.cells #[.int .i64 3, .int .i64 1, .int .i64 5, .int .i64 4] 3)).cell? ⟨w.heap.size, 2, none⟩ = some (.int .i64 5) := hK.cell 2
  go_enter Try.func30, Try.ntmps30
  go_upto_region 2 with (fail)
  generalize (w.alloc (Obj.cells #[.int .i64 3, .int .i64 1, .int .i64 5, .int .i64 4] 3)) = W0 at *
  go_wp2_with fail
  refine (refOf 5 _).mono ?_
  rintro e w1 ⟨rfl, b1⟩
  have h1 := h0.below b1
  have b1 := below_st b0 b1
  have O := refOpen A n c 0 0 l (tg5 5) w1 h1 (by omega) hc (by omega) rfl
  unfold OpenV at O
  go_wp2_with fail
  refine O.mono ?_
  rintro e w2 ⟨A2, n2, c2, rfl, s2, hc2, b2⟩
  have b2 := below_st b1 b2
  clear O h1 b1 h0 b0 hK k0
  generalize rOpen l 0 (tg5 5) = T at *
  obtain ⟨ct, k', E⟩ := T
  simp only at q s2 ⊢
  have e1 : (E != 0) = true := by simpa using q
  have e2 : (E == 0) = false := by simpa using q
  go_wp2
  go_ret3
  exact ⟨none, 0, 0, rfl, Bs.nil _ _, Nat.le_refl _, b2⟩

set_option maxHeartbeats 3200000 in
theorem rd2Ok (A : Option Addr) (n c : Nat) (l : List UInt8) (w : World) (h : Bs w A n l) (hc : n ≤ c) (hn : n ≤ 1099511) (ct : List UInt8) (k' : Nat) (hT : rOpen l 0 (tg5 5) = (ct, k', 0)) (hp : ct.length = 0) :
    Calls Try.prog 30 #[.slice A n c, .int .i64 0, .int .i64 2] w (RdV w ct k' 0) := by
  have b0 := below_alloc1 w (.cells #[.int .i64 3, .int .i64 1, .int .i64 5, .int .i64 4] 3)
  have hK := Blk.new w [.int .i64 3, .int .i64 1, .int .i64 5, .int .i64 4] 3
  have h0 := h.below b0
  have k0 : (w.alloc (.cells #[.int .i64 3, .int .i64 1, .int .i64 5, .int .i64 4] 3)).cell? ⟨w.heap.size, 2, none⟩ = some (.int .i64 5) := hK.cell 2
  have hctl : ct.length ≤ l.length := by have := rOpen_len l 0 (tg5 5); rw [hT] at this; exact this
  have hl := h.len
  go_enter Try.func30, Try.ntmps30
  go_upto_region 2 with (fail)
  generalize (w.alloc (Obj.cells #[.int .i64 3, .int .i64 1, .int .i64 5, .int .i64 4] 3)) = W0 at *
  go_wp2_with fail
  refine (refOf 5 _).mono ?_
  rintro e w1 ⟨rfl, b1⟩
  have h1 := h0.below b1
  have b1 := below_st b0 b1
  have O := refOpen A n c 0 0 l (tg5 5) w1 h1 (by omega) hc (by omega) rfl
  unfold OpenV at O
  rw [hT] at O
  go_wp2_with fail
  refine O.mono ?_
  rintro e w2 ⟨A2, n2, c2, rfl, s2, hc2, b2⟩
  have b2 := below_st b1 b2
  clear O h1 b1 h0 b0 hK k0 hT
  have hn2 : n2 ≤ 1099511 := by have := s2.len; omega
  simp only at s2 ⊢
  have hn1 : n2 = 0 := by have := s2.len; omega
  subst hn1
  go_wp2
  go_ret3
  exact ⟨A2, 0, c2, rfl, s2, hc2, b2⟩

set_option maxHeartbeats 3200000 in
theorem rd2No (A : Option Addr) (n c : Nat) (l : List UInt8) (w : World) (h : Bs w A n l) (hc : n ≤ c) (hn : n ≤ 1099511) (ct : List UInt8) (k' : Nat) (hT : rOpen l 0 (tg5 5) = (ct, k', 0)) (hp : ct.length ≠ 0) :
    Calls Try.prog 30 #[.slice A n c, .int .i64 0, .int .i64 2] w (RdV w [] 0 6) := by
  have b0 := below_alloc1 w (.cells #[.int .i64 3, .int .i64 1, .int .i64 5, .int .i64 4] 3)
  have hK := Blk.new w [.int .i64 3, .int .i64 1, .int .i64 5, .int .i64 4] 3
  have h0 := h.below b0
  have k0 : (w.alloc (.cells #[.int .i64 3, .int .i64 1, .int .i64 5, .int .i64 4] 3)).cell? ⟨w.heap.size, 2, none⟩ = some (.int .i64 5) := hK.cell 2
  have hctl : ct.length ≤ l.length := by have := rOpen_len l 0 (tg5 5); rw [hT] at this; exact this
  have hl := h.len
  go_enter Try.func30, Try.ntmps30
  go_upto_region 2 with (fail)
  generalize (w.alloc (Obj.cells #[.int .i64 3, .int .i64 1, .int .i64 5, .int .i64 4] 3)) = W0 at *
  go_wp2_with fail
  refine (refOf 5 _).mono ?_
  rintro e w1 ⟨rfl, b1⟩
  have h1 := h0.below b1
  have b1 := below_st b0 b1
  have O := refOpen A n c 0 0 l (tg5 5) w1 h1 (by omega) hc (by omega) rfl
  unfold OpenV at O
  rw [hT] at O
  go_wp2_with fail
  refine O.mono ?_
  rintro e w2 ⟨A2, n2, c2, rfl, s2, hc2, b2⟩
  have b2 := below_st b1 b2
  clear O h1 b1 h0 b0 hK k0 hT
  have hn2 : n2 ≤ 1099511 := by have := s2.len; omega
  simp only at s2 ⊢
  have e0 : ((n2 : Int) == 0) = false := by have := s2.len; simp; omega
  go_wp2
  go_ret3
  exact ⟨none, 0, 0, rfl, Bs.nil _ _, Nat.le_refl _, b2⟩

set_option maxHeartbeats 3200000 in
theorem rd3Err (A : Option Addr) (n c : Nat) (l : List UInt8) (w : World) (h : Bs w A n l) (hc : n ≤ c) (hn : n ≤ 1099511) (q : (rOpen l 0 (tg5 4)).2.2 ≠ 0) :
    Calls Try.prog 30 #[.slice A n c, .int .i64 0, .int .i64 3] w (RdV w [] 0 (rOpen l 0 (tg5 4)).2.2) := by
  have b0 := below_alloc1 w (.cells #[.int .i64 3, .int .i64 1, .int .i64 5, .int .i64 4] 3)
  have hK := Blk.new w [.int .i64 3, .int .i64 1, .int .i64 5, .int .i64 4] 3
  have h0 := h.below b0
  have k0 : (w.alloc (.cells #[.int .i64 3, .int .i64 1, .int .i64 5, .int .i64 4] 3)).cell? ⟨w.heap.size, 3, none⟩ = some (.int .i64 4) := hK.cell 3
  go_enter Try.func30, Try.ntmps30
  go_upto_region 2 with (fail)
  generalize (w.alloc (Obj.cells #[.int .i64 3, .int .i64 1, .int .i64 5, .int .i64 4] 3)) = W0 at *
  go_wp2_with fail
  refine (refOf 4 _).mono ?_
  rintro e w1 ⟨rfl, b1⟩
  have h1 := h0.below b1
  have b1 := below_st b0 b1
  have O := refOpen A n c 0 0 l (tg5 4) w1 h1 (by omega) hc (by omega) rfl
  unfold OpenV at O
  go_wp2_with fail
  refine O.mono ?_
  rintro e w2 ⟨A2, n2, c2, rfl, s2, hc2, b2⟩
  have b2 := below_st b1 b2
  clear O h1 b1 h0 b0 hK k0
  generalize rOpen l 0 (tg5 4) = T at *
  obtain ⟨ct, k', E⟩ := T
  simp only at q s2 ⊢
  have e1 : (E != 0) = true := by simpa using q
  have e2 : (E == 0) = false := by simpa using q
  go_wp2
  go_ret3
  exact ⟨none, 0, 0, rfl, Bs.nil _ _, Nat.le_refl _, b2⟩

set_option maxHeartbeats 3200000 in
theorem rd3Ok (A : Option Addr) (n c : Nat) (l : List UInt8) (w : World) (h : Bs w A n l) (hc : n ≤ c) (hn : n ≤ 1099511) (ct : List UInt8) (k' : Nat) (hT : rOpen l 0 (tg5 4) = (ct, k', 0))  :
    Calls Try.prog 30 #[.slice A n c, .int .i64 0, .int .i64 3] w (RdV w ct k' 0) := by
  have b0 := below_alloc1 w (.cells #[.int .i64 3, .int .i64 1, .int .i64 5, .int .i64 4] 3)
  have hK := Blk.new w [.int .i64 3, .int .i64 1, .int .i64 5, .int .i64 4] 3
  have h0 := h.below b0
  have k0 : (w.alloc (.cells #[.int .i64 3, .int .i64 1, .int .i64 5, .int .i64 4] 3)).cell? ⟨w.heap.size, 3, none⟩ = some (.int .i64 4) := hK.cell 3
  have hctl : ct.length ≤ l.length := by have := rOpen_len l 0 (tg5 4); rw [hT] at this; exact this
  have hl := h.len
  go_enter Try.func30, Try.ntmps30
  go_upto_region 2 with (fail)
  generalize (w.alloc (Obj.cells #[.int .i64 3, .int .i64 1, .int .i64 5, .int .i64 4] 3)) = W0 at *
  go_wp2_with fail
  refine (refOf 4 _).mono ?_
  rintro e w1 ⟨rfl, b1⟩
  have h1 := h0.below b1
  have b1 := below_st b0 b1
  have O := refOpen A n c 0 0 l (tg5 4) w1 h1 (by omega) hc (by omega) rfl
  unfold OpenV at O
  rw [hT] at O
  go_wp2_with fail
  refine O.mono ?_
  rintro e w2 ⟨A2, n2, c2, rfl, s2, hc2, b2⟩
  have b2 := below_st b1 b2
  clear O h1 b1 h0 b0 hK k0 hT
  have hn2 : n2 ≤ 1099511 := by have := s2.len; omega
  simp only at s2 ⊢
  go_wp2
  go_ret3
  exact ⟨A2, n2, c2, rfl, s2, hc2, b2⟩

end Go.Proofs.Ytdebekedilogoaa
