/-
  The contracts of layer 3's reading: the project's read, Read; the reference's Read.
-/
import Derived.Test.YtbjiknfebocepaaGreatDoorHdOpen
import Derived.Test.YtbjiknfebocepaaGreatDoorHdWr
import Derived.Test.YtbjiknfebocepaaGreatDoorR3k
namespace Go.Proofs.YtbjiknfebocepaaGreatDoor
open Go.RowKit Go.Joins
set_option linter.unusedVariables false
set_option linter.unusedSimpArgs false
set_option maxRecDepth 4000

theorem rOpen_ge (l : List UInt8) (k : Nat) (t : Tg) : k ≤ (rOpen l k t).2.1 := by
  have h := rHead_ge l k
  unfold rOpen
  split
  · split
    · split
      · exact Nat.le_refl _
      · show k ≤ (rHead l k).2.2.1 + _; omega
    · exact Nat.le_refl _
  · exact Nat.le_refl _
theorem rOpen_len (l : List UInt8) (k : Nat) (t : Tg) : (rOpen l k t).1.length ≤ l.length := by
  unfold rOpen
  split
  · split
    · split
      · simp
      · simp; omega
    · simp
  · simp

/-- Parse's answer, an error or not. -/
def ParA (l : List UInt8) (w : World) (e : Ending) (w' : World) : Prop :=
  ∃ s A c, e = .returned (.tuple #[.agg #[.bool (Nm.below s), .slice A s.size.length c], .int .i64 (parE l)]) ∧ Bs w' A s.size.length s.size ∧ s.size.length ≤ c ∧ s.ok ∧ s.z = (if parE l = 0 then parZ l else 0) ∧ s.size.length ≤ 80 ∧ Below w.heap.size w w'
theorem ParP.all {l : List UInt8} {w w' : World} {e : Ending} (h : ParP l w e w') : ParA l w e w' := by
  obtain ⟨h1, h2, h3⟩ := h
  by_cases h0 : parE l = 0
  · obtain ⟨s, u, rfl, ⟨A, c, rfl, hs, hc⟩, ho, hz, hl⟩ := h2 h0
    exact ⟨s, A, c, by rw [h0], hs, hc, ho, by rw [if_pos h0]; exact hz, hl, h3⟩
  · exact ⟨⟨false, []⟩, none, 0, h1 h0, Bs.nil _ _, Nat.le_refl _, ⟨Nz.nil, fun _ => rfl⟩, by rw [if_neg h0]; rfl, by simp, h3⟩

/-- What reading gives: the error, the number, the place. -/
def rdE (T : List UInt8 × Nat × Int) : Int := if T.2.2 = 0 then parE T.1 else T.2.2
def rdZ (T : List UInt8 × Nat × Int) : Int := if rdE T = 0 then parZ T.1 else 0
def rdK (k : Nat) (T : List UInt8 × Nat × Int) : Nat := if rdE T = 0 then T.2.1 else k
/-- A number handed back beside an error. -/
def NumQ (x : Nm) (q : Int) (e : Ending) (w' : World) : Prop :=
  ∃ A c, e = .returned (.tuple #[.agg #[.bool x.below, .slice A x.size.length c], .int .i64 q]) ∧ Bs w' A x.size.length x.size ∧ x.size.length ≤ c
def RdP (w : World) (g : Nat) (s : Value) (l : List UInt8) (k : Nat) (T : List UInt8 × Nat × Int) (e : Ending) (w' : World) : Prop :=
  Only g w w' ∧ Cur w' g s l (rdK k T) ∧ ∃ x, NumQ x (rdE T) e w' ∧ x.ok ∧ x.z = rdZ T ∧ x.size.length ≤ 80
theorem noB2 {w : World} {g : Nat} {t : TypeId} {a b : Value} (h : Blk w g t [a, b]) (ha : ∀ x : UInt8, a ≠ .int .u8 (x.toNat : Int)) (hb : ∀ x : UInt8, b ≠ .int .u8 (x.toNat : Int)) : ∀ o (x : UInt8), w.cell? ⟨g, o, none⟩ ≠ some (.int .u8 (x.toNat : Int)) := by
  intro o x hx
  rw [h.cell o] at hx
  rcases o with _ | _ | o <;> simp at hx
  · exact ha x hx
  · exact hb x hx

set_option maxHeartbeats 6400000 in
theorem whRead (g k : Nat) (l : List UInt8) (t : Tg) (w : World) {s : Value} (h : Cur w g s l k) (hl : l.length ≤ 1000000) :
    Calls Tryz.prog 24 #[.pointer (some ⟨g, 0, none⟩), t.v] w (RdP w g s l k (rOpen l k t)) := by
  have hg := h.lt
  have hlen := rOpen_len l k t
  have hge := rOpen_ge l k t
  have hno := rOpen_no l k t
  have HO0 := fun W (hW : Cur W g s l k) => hdOpen g k l t W hW
  unfold OpenOk at HO0
  have HO := Lib.hid HO0
  clear HO0
  generalize rOpen l k t = T at *
  obtain ⟨tc, tn, tm⟩ := t
  have kT : Blk ((w.alloc (.cells #[.int .i64 tc, .int .i64 tn, .bool tm] 60)).alloc (.cells #[.bool false, .slice none 0 0] 26)) w.heap.size 60 [.int .i64 tc, .int .i64 tn, .bool tm] :=
    (Blk.new w [.int .i64 tc, .int .i64 tn, .bool tm] 60).below (below_alloc1 _ _)
  have hP := Blk.new2 (w.alloc (.cells #[.int .i64 tc, .int .i64 tn, .bool tm] 60)) (.bool false) (.slice none 0 0) 26
  rw [World.size_alloc] at hP
  have b0 := below_alloc2 w (.cells #[.int .i64 tc, .int .i64 tn, .bool tm] 60) (.cells #[.bool false, .slice none 0 0] 26)
  have h0 := h.below b0
  have o0 : Only g w _ := Only.of_below b0
  have hs0 : w.heap.size + 2 ≤ ((w.alloc (.cells #[.int .i64 tc, .int .i64 tn, .bool tm] 60)).alloc (.cells #[.bool false, .slice none 0 0] 26)).heap.size := by simp
  unfold Tg.v at HO ⊢
  go_enter Tryz.func24, Tryz.ntmps24
  go_upto_region 1 with (fail)
  generalize ((w.alloc (Obj.cells #[.int .i64 tc, .int .i64 tn, .bool tm] 60)).alloc (Obj.cells #[.bool false, .slice none 0 0] 26)) = W0 at *
  generalize hR0 : w.heap.size = R at *
  have HR := Lib.hid hR0
  clear hR0
  have t0 := kT.cell 0
  have t1 := kT.cell 1
  have t2 := kT.cell 2
  simp at t0 t1 t2
  go_wp2_with fail
  refine (curAt g k l W0 h0).mono ?_
  rintro e w1 ⟨rfl, hw1⟩
  obtain rfl : W0 = w1 := hw1
  go_wp2_with fail
  refine (HO.out _ h0).mono ?_
  rintro e w3 ⟨p, rfl, hc3, o3, hp3, hp4⟩
  obtain ⟨ct, k', E⟩ := T
  simp only at hc3 hp3 hp4 hlen hge hno ⊢
  have hP3 := hP.only o3 (by omega)
  have o3' := o0.trans o3
  have hs3 : R + 2 ≤ w3.heap.size := by have := o3.size; omega
  clear HO t0 t1 t2 kT hP h0 o0 b0 h
  by_cases q : E = 0
  · subst q
    obtain ⟨g2, s2, rfl, hg2, hcur⟩ := hp3 rfl
    have hg2R : R + 2 ≤ g2 := by omega
    clear hp3 hno hp4
    go_wp2_with fail
    refine (curRest g2 0 ct w3 hcur).mono ?_
    rintro e w4 ⟨A4, n4, c4, rfl, ho4, hc4, o4⟩
    simp only [List.drop_zero] at ho4
    have hP4 := hP3.only o4 (by omega)
    have hcn := hcur.noByte
    have hc4' : Cur w4 g s l k' := hc3.only o4 (by omega) hcn
    have o4' : Only g w w4 := Only.grown o3' o4 (by intro x hx; cases hx; have := HR.out; omega)
    have hs4 : R + 2 ≤ w4.heap.size := by have := o4.size; omega
    have hn4 := ho4.bs.1.len
    clear hP3 hcur hc3 o3' o3 hcn hc4
    go_wp2_with fail
    refine (whParse A4 n4 c4 ct w4 ho4.bs.1 (by omega)).mono ?_
    intro e w5 hPa
    obtain ⟨y, AY, cY, rfl, sY, hcY, oY, zY, lY, b5⟩ := hPa.all
    have hP5 := hP4.below b5
    have hc5 := hc4'.below b5
    have o5 := o4'.trans (Only.of_below b5)
    have hs5 : R + 2 ≤ w5.heap.size := by have := b5.size; omega
    have HZ := Lib.hid zY
    have HOK := Lib.hid oY
    have HCY := Lib.hid hcY
    clear hPa hP4 hc4' o4' ho4 hn4 b5 zY oY hcY
    have bx := below_alloc1 w5 (.cells #[.bool y.below, .slice AY y.size.length cY] 26)
    have hN := Blk.new2 w5 (.bool y.below) (.slice AY y.size.length cY) 26
    have hP6 := hP5.below bx
    have hc6 := hc5.below bx
    have o6 := o5.trans (Only.of_below bx)
    have sY := sY.below bx
    have hs6 : R + 2 ≤ (w5.alloc (.cells #[.bool y.below, .slice AY y.size.length cY] 26)).heap.size := by simp; omega
    have hNR : R + 2 ≤ w5.heap.size := hs5
    have hgN : g < w5.heap.size := hc5.lt
    clear hP5 hc5 o5 bx
    go_upto_region 6 with (fail)
    generalize (w5.alloc (Obj.cells #[.bool y.below, .slice AY y.size.length cY] 26)) = W6 at *
    generalize w5.heap.size = N at *
    have FIN : Hid (∀ W', Only g w W' → Cur W' g s l (if parE ct = 0 then k' else k) → Bs W' AY y.size.length y.size → RdP w g s l k (ct, k', 0) (.returned (.tuple #[.agg #[.bool y.below, .slice AY y.size.length cY], .int .i64 (parE ct)])) W') := by
      intro W' a1 a2 a3
      refine ⟨a1, a2, y, ⟨AY, cY, rfl, a3, HCY.out⟩, HOK.out, HZ.out, lY⟩
    obtain ⟨f, hf⟩ : ∃ f, parE ct = f := ⟨_, rfl⟩
    rw [hf] at FIN ⊢
    clear hf
    have HZ0 := HZ
    clear HZ0
    by_cases qf : f = 0
    · subst qf
      obtain ⟨n0, n1, _, _⟩ := blk2 hN
      have s9 := sY.set2 hP6 (.bool y.below) (.slice AY y.size.length cY)
      obtain ⟨p0, p1, p2, p3⟩ := blk2 hP6
      obtain ⟨q0, q1, _, _⟩ := blk2 (blkPut hP6 (.bool y.below) (.slice AY y.size.length cY))
      have oR := ((Only.refl (R + 1) W6).setCell (p := ⟨R + 1, 0, none⟩) rfl (.bool y.below)).setCell (p := ⟨R + 1, 1, none⟩) rfl (.slice AY y.size.length cY)
      have hc9 := hc6.only oR (by omega) (noB2 hP6 (by simp) (by simp))
      have o9 : Only g w _ := Only.grown o6 oR (by intro x hx; cases hx; first | omega | (have := HR.out; omega))
      clear hP6 hN
      go_wp2
      refine bodyPost_ret (v := .tuple #[.agg #[.bool y.below, .slice AY y.size.length cY], .int .i64 0]) (by simp [results, Tryz.results24, go_sem, q0, q1]) rfl ?_
      exact FIN.out _ o9 hc9 s9
    · have e1 : (f != 0) = true := by simpa using qf
      have e2 : (f == 0) = false := by simpa using qf
      go_wp2_with fail
      refine (curBack g k' k _ l _ hc6 hge rfl).mono ?_
      rintro e w7 ⟨rfl, hc7, o7⟩
      have hP7 := hP6.only o7 (by omega)
      have hN7 := hN.only o7 (by omega)
      have sY7 : Bs w7 AY y.size.length y.size := sY.only o7 hc6.noByte
      have o7' := o6.trans o7
      clear hP6 hN hc6 o6 sY
      obtain ⟨n0, n1, _, _⟩ := blk2 hN7
      have s9 := sY7.set2 hP7 (.bool y.below) (.slice AY y.size.length cY)
      rw [if_neg qf] at FIN
      obtain ⟨p0, p1, p2, p3⟩ := blk2 hP7
      obtain ⟨q0, q1, _, _⟩ := blk2 (blkPut hP7 (.bool y.below) (.slice AY y.size.length cY))
      have oR := ((Only.refl (R + 1) w7).setCell (p := ⟨R + 1, 0, none⟩) rfl (.bool y.below)).setCell (p := ⟨R + 1, 1, none⟩) rfl (.slice AY y.size.length cY)
      have hc9 := hc7.only oR (by omega) (noB2 hP7 (by simp) (by simp))
      have o9 : Only g w _ := Only.grown o7' oR (by intro x hx; cases hx; first | omega | (have := HR.out; omega))
      clear hP7 hN7
      go_wp2
      refine bodyPost_ret (v := .tuple #[.agg #[.bool y.below, .slice AY y.size.length cY], .int .i64 f]) (by simp [results, Tryz.results24, go_sem, q0, q1]) rfl ?_
      exact FIN.out _ o9 hc9 s9
  · have hT := hno q
    obtain ⟨rfl, rfl⟩ : ct = [] ∧ k' = k := by simpa using hT
    clear hno hp3 hp4 hT
    have e1 : (E != 0) = true := by simpa using q
    have e2 : (E == 0) = false := by simpa using q
    have rE : rdE ([], k', E) = E := if_neg q
    have FIN : Hid (∀ W', Only g w W' → Cur W' g s l k' → RdP w g s l k' ([], k', E) (.returned (.tuple #[.agg #[.bool false, .slice none 0 0], .int .i64 E])) W') := by
      intro W' a1 a2
      refine ⟨a1, by unfold rdK; rw [rE, if_neg q]; exact a2, ⟨false, []⟩, ⟨none, 0, by rw [rE]; rfl, Bs.nil _ _, Nat.le_refl _⟩, ⟨Nz.nil, fun _ => rfl⟩, by unfold rdZ; rw [rE, if_neg q]; rfl, by simp⟩
    clear rE
    obtain ⟨p0, p1, p2, p3⟩ := blk2 hP3
    obtain ⟨q0, q1, _, _⟩ := blk2 (blkPut hP3 (.bool false) (.slice none 0 0))
    have oR := ((Only.refl (R + 1) w3).setCell (p := ⟨R + 1, 0, none⟩) rfl (.bool false)).setCell (p := ⟨R + 1, 1, none⟩) rfl (.slice none 0 0)
    have hc9 := hc3.only oR (by omega) (noB2 hP3 (by simp) (by simp))
    have o9 : Only g w _ := Only.grown o3' oR (by intro x hx; cases hx; first | omega | (have := HR.out; omega))
    clear hP3
    go_wp2
    refine bodyPost_ret (v := .tuple #[.agg #[.bool false, .slice none 0 0], .int .i64 E]) (by simp [results, Tryz.results24, go_sem, q0, q1]) rfl ?_
    exact FIN.out _ o9 hc9

def tgW (n : Int) : Tg := ⟨0, n, n == 16 || n == 17⟩
set_option maxHeartbeats 3200000 in
theorem whReadT (g k : Nat) (l : List UInt8) (w : World) {s : Value} (h : Cur w g s l k) (hl : l.length ≤ 1000000) :
    Calls Tryz.prog 6 #[.pointer (some ⟨g, 0, none⟩)] w (RdP w g s l k (rOpen l k (tgW 2))) := by
  have hg := h.lt
  have hP := Blk.new2 w (.bool false) (.slice none 0 0) 26
  have b0 := below_alloc1 w (.cells #[.bool false, .slice none 0 0] 26)
  have h0 := h.below b0
  have o0 : Only g w _ := Only.of_below b0
  have HO := Lib.hid (fun W (hW : Cur W g s l k) => whRead g k l (tgW 2) W hW hl)
  have HF := Lib.hid (fun W => hdOf 2 W)
  have e16 : ((2 : Int) == 16 || (2 : Int) == 17) = false := rfl
  go_enter Tryz.func6, Tryz.ntmps6
  go_upto_region 1 with (fail)
  generalize (w.alloc (Obj.cells #[.bool false, .slice none 0 0] 26)) = W0 at *
  go_wp2_with fail
  refine (HF.out W0).mono ?_
  rintro e w2 ⟨rfl, b2⟩
  have hP2 := hP.below b2
  have h2 := h0.below b2
  have o2 := o0.trans (Only.of_below b2)
  clear hP h0 o0 b0 b2 HF
  go_wp2_with fail
  refine (HO.out _ h2).mono ?_
  rintro e w3 ⟨o3, hc3, x, ⟨A3, c3, rfl, s3, hc3'⟩, ok3, z3, l3⟩
  have hP3 := hP2.only o3 (by omega)
  have o3' := o2.trans o3
  have FIN : Hid (∀ W', Only g w W' → Cur W' g s l (rdK k (rOpen l k (tgW 2))) → Bs W' A3 x.size.length x.size → RdP w g s l k (rOpen l k (tgW 2)) (.returned (.tuple #[.agg #[.bool x.below, .slice A3 x.size.length c3], .int .i64 (rdE (rOpen l k (tgW 2)))])) W') :=
    fun W' a1 a2 a3 => ⟨a1, a2, x, ⟨A3, c3, rfl, a3, hc3'⟩, ok3, z3, l3⟩
  clear HO h2 o2 hP2 ok3 z3 hc3' o3
  generalize rdE (rOpen l k (tgW 2)) = q at *
  generalize rdK k (rOpen l k (tgW 2)) = kk at *
  have s9 := s3.set2 hP3 (.bool x.below) (.slice A3 x.size.length c3)
  obtain ⟨p0, p1, p2, p3⟩ := blk2 hP3
  obtain ⟨q0, q1, _, _⟩ := blk2 (blkPut hP3 (.bool x.below) (.slice A3 x.size.length c3))
  have oR := ((Only.refl (w.heap.size) w3).setCell (p := ⟨w.heap.size, 0, none⟩) rfl (.bool x.below)).setCell (p := ⟨w.heap.size, 1, none⟩) rfl (.slice A3 x.size.length c3)
  have hc9 := hc3.only oR (by omega) (noB2 hP3 (by simp) (by simp))
  have o9 : Only g w _ := Only.grown o3' oR (by intro x hx; cases hx; first | omega | (have := HR.out; omega))
  clear hP3
  go_wp2
  refine bodyPost_ret (v := .tuple #[.agg #[.bool x.below, .slice A3 x.size.length c3], .int .i64 q]) (by simp [results, Tryz.results6, go_sem, q0, q1]) rfl ?_
  exact FIN.out _ o9 hc9 s9

/-- What the reference's Read hands back. -/
def RdR (w : World) (k : Nat) (T : List UInt8 × Nat × Int) (e : Ending) (w' : World) : Prop :=
  ∃ x A c, e = .returned (.tuple #[.agg #[.bool (Nm.below x), .slice A x.size.length c], .int .i64 (rdK k T : Int), .int .i64 (rdE T)]) ∧ Bs w' A x.size.length x.size ∧ x.size.length ≤ c ∧ x.ok ∧ x.z = rdZ T ∧ x.size.length ≤ 80 ∧ Below w.heap.size w w'
set_option maxHeartbeats 6400000 in
theorem ref3Read (A : Option Addr) (n c : Nat) (l : List UInt8) (t : Tg) (w : World) (h : Bs w A n l) (hc : n ≤ c) (hn : n ≤ 1000000) :
    Calls Tryz.prog 7 #[.slice A n c, .int .i64 0, t.v] w (RdR w 0 (rOpen l 0 t)) := by
  have hlen := rOpen_len l 0 t
  rw [h.len] at hlen
  have hno := rOpen_no l 0 t
  have HO := Lib.hid (fun W (hW : Bs W A n l) => refOpen A n c 0 0 l t W hW (by omega) hc (Nat.zero_le _) rfl)
  generalize rOpen l 0 t = T at *
  obtain ⟨tc, tn, tm⟩ := t
  have kT : Blk ((w.alloc (.cells #[.int .i64 tc, .int .i64 tn, .bool tm] 34)).alloc (.cells #[.bool false, .slice none 0 0] 30)) w.heap.size 34 [.int .i64 tc, .int .i64 tn, .bool tm] :=
    (Blk.new w [.int .i64 tc, .int .i64 tn, .bool tm] 34).below (below_alloc1 _ _)
  have hP := Blk.new2 (w.alloc (.cells #[.int .i64 tc, .int .i64 tn, .bool tm] 34)) (.bool false) (.slice none 0 0) 30
  rw [World.size_alloc] at hP
  have b0 := below_alloc2 w (.cells #[.int .i64 tc, .int .i64 tn, .bool tm] 34) (.cells #[.bool false, .slice none 0 0] 30)
  have h0 := h.below b0
  unfold Tg.v at HO ⊢
  go_enter Tryz.func7, Tryz.ntmps7
  go_upto_region 1 with (fail)
  generalize ((w.alloc (Obj.cells #[.int .i64 tc, .int .i64 tn, .bool tm] 34)).alloc (Obj.cells #[.bool false, .slice none 0 0] 30)) = W0 at *
  have t0 := kT.cell 0
  have t1 := kT.cell 1
  have t2 := kT.cell 2
  simp at t0 t1 t2
  go_wp2_with fail
  refine (HO.out _ h0).mono ?_
  rintro e w3 ⟨A3, n3, c3, rfl, s3, hc3, b3⟩
  obtain ⟨ct, k', E⟩ := T
  simp only at s3 hlen hno ⊢
  obtain rfl : ct.length = n3 := s3.len
  have hP3 := hP.below b3
  have bW3 := below_st3 b0 b3
  clear HO t0 t1 t2 kT hP h0 b0 h b3
  by_cases q : E = 0
  · subst q
    go_wp2_with fail
    refine (ref3Parse A3 ct.length c3 ct w3 s3 hc3 (by omega)).mono ?_
    intro e w5 hPa
    obtain ⟨y, AY, cY, rfl, sY, hcY, oY, zY, lY, b5⟩ := hPa.all
    have hP5 := hP3.below b5
    have bW5 := below_st3 bW3 b5
    have HZ := Lib.hid zY
    have HOK := Lib.hid oY
    have HCY := Lib.hid hcY
    clear hPa hP3 bW3 zY oY hcY s3 b5
    have bx := below_alloc1 w5 (.cells #[.bool y.below, .slice AY y.size.length cY] 30)
    have hN := Blk.new2 w5 (.bool y.below) (.slice AY y.size.length cY) 30
    have hP6 := hP5.below bx
    have bW6 := below_st3 bW5 bx
    have sY := sY.below bx
    clear hP5 bW5 bx
    go_upto_region 5 with (fail)
    generalize (w5.alloc (Obj.cells #[.bool y.below, .slice AY y.size.length cY] 30)) = W6 at *
    generalize w5.heap.size = N at *
    have FIN : Hid (∀ W', Below w.heap.size w W' → Bs W' AY y.size.length y.size → RdR w 0 (ct, k', 0) (.returned (.tuple #[.agg #[.bool y.below, .slice AY y.size.length cY], .int .i64 ((if parE ct = 0 then k' else 0 : Nat) : Int), .int .i64 (parE ct)])) W') := by
      intro W' a1 a3
      exact ⟨y, AY, cY, rfl, a3, HCY.out, HOK.out, HZ.out, lY, a1⟩
    have FIN0 : Hid (parE ct ≠ 0 → ∀ W', Below w.heap.size w W' → RdR w 0 (ct, k', 0) (.returned (.tuple #[.agg #[.bool false, .slice none 0 0], .int .i64 0, .int .i64 (parE ct)])) W') := by
      intro hq W' a1
      refine ⟨⟨false, []⟩, none, 0, ?_, Bs.nil _ _, Nat.le_refl _, ⟨Nz.nil, fun _ => rfl⟩, ?_, by simp, a1⟩
      · have : rdK 0 (ct, k', 0) = 0 := if_neg hq
        rw [this]; rfl
      · unfold rdZ; rw [if_neg (show ¬ rdE (ct, k', 0) = 0 from hq)]; rfl
    obtain ⟨f, hf⟩ : ∃ f, parE ct = f := ⟨_, rfl⟩
    rw [hf] at FIN FIN0 ⊢
    clear hf
    obtain ⟨p0, p1, p2, p3⟩ := blk2 hP6
    by_cases qf : f = 0
    · subst qf
      obtain ⟨n0, n1, _, _⟩ := blk2 hN
      have s9 := sY.set2 hP6 (.bool y.below) (.slice AY y.size.length cY)
      obtain ⟨q0, q1, _, _⟩ := blk2 (blkPut hP6 (.bool y.below) (.slice AY y.size.length cY))
      have b9 := below_set2 bW6 bW6.size (show w.heap.size ≤ w.heap.size + 1 by omega) (.bool y.below) (.slice AY y.size.length cY)
      clear hP6 hN FIN0
      go_wp2
      refine bodyPost_ret (v := .tuple #[.agg #[.bool y.below, .slice AY y.size.length cY], .int .i64 (k' : Int), .int .i64 0]) (by simp [results, Tryz.results7, go_sem, q0, q1]) rfl ?_
      exact FIN.out _ b9 s9
    · have e1 : (f != 0) = true := by simpa using qf
      have e2 : (f == 0) = false := by simpa using qf
      obtain ⟨q0, q1, _, _⟩ := blk2 (blkPut hP6 (.bool false) (.slice none 0 0))
      have b9 := below_set2 bW6 bW6.size (show w.heap.size ≤ w.heap.size + 1 by omega) (.bool false) (.slice none 0 0)
      clear hP6 hN FIN sY
      go_wp2
      refine bodyPost_ret (v := .tuple #[.agg #[.bool false, .slice none 0 0], .int .i64 0, .int .i64 f]) (by simp [results, Tryz.results7, go_sem, q0, q1]) rfl ?_
      exact FIN0.out qf _ b9
  · have hT := hno q
    obtain ⟨rfl, rfl⟩ : ct = [] ∧ k' = 0 := by simpa using hT
    clear hno hT
    have e1 : (E != 0) = true := by simpa using q
    have e2 : (E == 0) = false := by simpa using q
    have rE : rdE ([], 0, E) = E := if_neg q
    have FIN : Hid (∀ W', Below w.heap.size w W' → RdR w 0 ([], 0, E) (.returned (.tuple #[.agg #[.bool false, .slice none 0 0], .int .i64 0, .int .i64 E])) W') := by
      intro W' a1
      refine ⟨⟨false, []⟩, none, 0, by unfold rdK; rw [rE, if_neg q]; rfl, Bs.nil _ _, Nat.le_refl _, ⟨Nz.nil, fun _ => rfl⟩, by unfold rdZ; rw [rE, if_neg q]; rfl, by simp, a1⟩
    clear rE
    obtain ⟨p0, p1, p2, p3⟩ := blk2 hP3
    obtain ⟨q0, q1, _, _⟩ := blk2 (blkPut hP3 (.bool false) (.slice none 0 0))
    have b9 := below_set2 bW3 bW3.size (show w.heap.size ≤ w.heap.size + 1 by omega) (.bool false) (.slice none 0 0)
    clear hP3
    go_wp2
    refine bodyPost_ret (v := .tuple #[.agg #[.bool false, .slice none 0 0], .int .i64 0, .int .i64 E]) (by simp [results, Tryz.results7, go_sem, q0, q1]) rfl ?_
    exact FIN.out _ b9

end Go.Proofs.YtbjiknfebocepaaGreatDoor
