/-
  The law BuildWraps.
-/
import Derived.Test.YtpcpaopnofakhaaWq
namespace Go.Proofs.Ytpcpaopnofakhaa
open Go.RowKit
set_option linter.unusedVariables false
set_option linter.unusedSimpArgs false
set_option maxRecDepth 4000

/-- What Implicit answers. -/
def impV (m : Int) (l : List UInt8) : List UInt8 × Int :=
  if impE l ≠ 0 then ([], impE l) else if (Tg.mk 2 m (rHead l 0).1.made).rightB then (wrapB ⟨2, m, (rHead l 0).1.made⟩ (l.drop (rHead l 0).2.2.1), 0) else ([], 1)
theorem ImpOk.form {w w' : World} {m : Int} {l : List UInt8} {e : Ending} (h : ImpOk w m l e w') : ElemOk w (impV m l) e w' := by
  obtain ⟨h1, h2, h3⟩ := h
  unfold impV
  by_cases q : impE l = 0
  · rw [if_neg (by simp [q])]
    obtain ⟨A, n, c, he, ho, hb⟩ := (h2 q).form
    cases hr : (Tg.mk 2 m (rHead l 0).1.made).rightB with
    | true => rw [hr] at he ho; exact ⟨A, n, c, he, ho, hb⟩
    | false => rw [hr] at he ho; exact ⟨A, n, c, he, ho, hb⟩
  · rw [if_pos q]
    exact ⟨none, 0, 0, h1 q, Ob.nil _ _ _, h3⟩
theorem RimOk.form {w w' : World} {m : Int} {l : List UInt8} {e : Ending} (h : RimOk w m l e w') : ElemOk w (impV m l) e w' := by
  obtain ⟨h1, h2, h3⟩ := h
  unfold impV
  by_cases q : impE l = 0
  · rw [if_neg (by simp [q])]
    obtain ⟨A, n, c, he, ho, hb⟩ := h2 q
    cases hr : (Tg.mk 2 m (rHead l 0).1.made).rightB with
    | true => rw [hr] at he ho; exact ⟨A, n, c, he, ho, hb⟩
    | false => rw [hr] at he ho; exact ⟨A, n, c, he, ho, hb⟩
  · rw [if_pos q]
    exact ⟨none, 0, 0, h1 q, Ob.nil _ _ _, h3⟩
/-- A tag's whole and the error's number. -/
def wrpV (t : Tg) (l : List UInt8) : List UInt8 × Int := if t.rightB then (wrapB t l, 0) else ([], 1)
theorem WrapOk.elem {w w' : World} {t : Tg} {l : List UInt8} {e : Ending} (h : WrapOk w t l e w') : ElemOk w (wrpV t l) e w' := by
  obtain ⟨A, n, c, he, ho, hb⟩ := h.form
  unfold wrpV
  cases hr : t.rightB with
  | true => rw [hr] at he ho; exact ⟨A, n, c, he, ho, hb⟩
  | false => rw [hr] at he ho; exact ⟨A, n, c, he, ho, hb⟩
theorem RwrOk.elem {w w' : World} {t : Tg} {l : List UInt8} {e : Ending} (h : RwrOk w t l e w') : ElemOk w (wrpV t l) e w' := by
  obtain ⟨A, n, c, he, ho, hb⟩ := h
  unfold wrpV
  cases hr : t.rightB with
  | true => rw [hr] at he ho; exact ⟨A, n, c, he, ho, hb⟩
  | false => rw [hr] at he ho; exact ⟨A, n, c, he, ho, hb⟩
theorem flat_le {N : Nat} : ∀ ls : List (List UInt8), (∀ l ∈ ls, l.length ≤ N) → ls.flatten.length ≤ ls.length * N
  | [], _ => by simp
  | l :: ls, h => by
    have h1 := h l (by simp)
    have h2 := flat_le ls (fun x hx => h x (List.mem_cons_of_mem _ hx))
    rw [List.flatten_cons, List.length_append, List.length_cons, Nat.add_mul]; omega
theorem fewL_short (ls : List (List UInt8)) (k : Nat) : ∀ l ∈ fewL ls k, l.length ≤ 100 := by
  intro l hl
  unfold fewL at hl
  obtain ⟨x, _, rfl⟩ := List.mem_map.1 hl
  simp; omega
theorem short_of {N : Nat} {ls : List (List UInt8)} (h : ∀ l ∈ ls, l.length ≤ N) : Short N ls := by
  intro k
  rcases Nat.lt_or_ge k ls.length with hk | hk
  · exact h _ (rowL_mem hk)
  · unfold rowL; rw [List.getD_eq_getElem?_getD, List.getElem?_eq_none hk]; simp

theorem wrapB_le (t : Tg) (l : List UInt8) : (wrapB t l).length ≤ l.length + 9 := by
  unfold wrapB
  have h1 := tagB_len t
  have h2 := lenB_len l.length
  simp; omega
theorem wrpV_le (t : Tg) (l : List UInt8) : (wrpV t l).1.length ≤ l.length + 9 := by
  unfold wrpV
  split
  · exact wrapB_le t l
  · simp
theorem impV_le (m : Int) (l : List UInt8) : (impV m l).1.length ≤ l.length + 9 := by
  unfold impV
  split
  · simp
  · split
    · refine Nat.le_trans (wrapB_le _ _) ?_
      simp
    · simp

/-- Bytes of some slice, and a number. -/
def N2 (w : World) (l : List UInt8) (k : Int) (e : Ending) (w' : World) : Prop := ∃ A n c, e = .returned (.tuple #[.slice A n c, .int .i64 k]) ∧ Bs w' A n l ∧ Below w.heap.size w w'
def N1 (w : World) (l : List UInt8) (e : Ending) (w' : World) : Prop := ∃ A n c, e = .returned (.slice A n c) ∧ Bs w' A n l ∧ Below w.heap.size w w'
def NL (w : World) (N : Nat) (l : List (List UInt8)) (e : Ending) (w' : World) : Prop := ∃ A c, e = .returned (.slice A N c) ∧ Bss w' A N l ∧ Below w.heap.size w w'
theorem n1_of {w : World} {l : List UInt8} {e : Ending} {w' : World} (h : NewBs w l e w') : N1 w l e w' := by
  obtain ⟨A, n, c, he, ho, hb⟩ := h; exact ⟨A, n, c, he, ho.bs.1, hb⟩
theorem n2_of {w : World} {l : List UInt8} {e : Ending} {w' : World} (h : NewBs2 w l e w') : N2 w l 0 e w' := by
  obtain ⟨A, n, c, he, ho, hb⟩ := h; exact ⟨A, n, c, he, ho.bs.1, hb⟩
theorem n2_elem {w : World} {r : List UInt8 × Int} {e : Ending} {w' : World} (h : ElemOk w r e w') : N2 w r.1 r.2 e w' := by
  obtain ⟨A, n, c, he, ho, hb⟩ := h; exact ⟨A, n, c, he, ho.bs.1, hb⟩
theorem same_of (l : List UInt8) (A B : Option Addr) (n m c d : Nat) (W : World) (ha : Bs W A n l) (hb : Bs W B m l) (hl : l.length ≤ 5000) :
    Calls Try.prog 20 #[.slice A n c, .slice B m d] W fun e w' => e = .returned (.bool true) ∧ Below W.heap.size W w' := by
  refine (refSame A B n m c d l l W ha hb (by have := ha.len; omega) (by have := hb.len; omega)).mono ?_
  rintro e w' ⟨rfl, hq⟩
  exact ⟨by rw [decide_eq_true rfl], hq.below⟩

set_option maxHeartbeats 12800000 in
theorem lawWraps (A : Option Addr) (n0 c : Nat) (ls0 : List (List UInt8)) (x : Int) (B : Option Addr) (m0 d : Nat) (b0 : List UInt8) (w : World) (h : Bss w A n0 ls0) (h0 : Bs w B m0 b0) (hd : m0 ≤ d) :
    Calls Try.prog 4 #[.slice A n0 c, .int .i64 x, .slice B m0 d] w fun e w' => e = .returned (.bool true) ∧ Below w.heap.size w w' := by
  have h1 : Bs w B (min m0 1000) (b0.take (min m0 1000)) := h0.take (by omega)
  obtain ⟨m, hm⟩ : ∃ m, m = min m0 1000 := ⟨_, rfl⟩
  have hmin : min (m0 : Int) 1000 = (m : Int) := by omega
  have hmin2 : (if (1000 : Int) < (m0 : Int) then (1000 : Int) else (m0 : Int)) = (m : Int) := by split <;> omega
  have m1 : (m : Int) ≤ (d : Int) := by omega
  have hmd : m ≤ d := by omega
  have hmb : m ≤ 1000 := by omega
  rw [← hm] at h1
  generalize b0.take m = bl at *
  have hF := Lib.hid (lw8Few A n0 c ls0 w h)
  have hss := fewL_short ls0 (min n0 10)
  have hsl := fewL_len (ls := ls0) (k := min n0 10) (by have := h.len; omega)
  obtain ⟨N, hN⟩ : ∃ N, N = min n0 10 := ⟨_, rfl⟩
  have hF2 : Hid (∀ e w', FewOk w n0 ls0 e w' → ∃ v vs, e = .returned v ∧ w'.ownsRow w.heap.size 41 1 v N vs ∧ Vss w vs (fewL ls0 N) ∧ Below w.heap.size w w') := by
    rw [hN]; exact fun e w' h => h
  rw [← hN] at hss hsl
  have hNb : N ≤ 10 := by omega
  generalize fewL ls0 N = ls at *
  have hfl := flat_le ls hss
  rw [hsl] at hfl
  have hflb : ls.flatten.length ≤ 1000 := by omega
  have hsh := short_of hss
  have hsh2 : Short 1099511627776 ls := fun k => by have := hsh k; omega
  have hfo : (ordO ls).flatten.length ≤ 1000 := by rw [flatten_perm_length (ordO_perm ls)]; exact hflb
  have hlo : (ordO ls).length = N := by rw [(ordO_perm ls).length_eq]; exact hsl
  have HW := Lib.hid h1
  have HSH := Lib.hid hsh2
  have LSa := Lib.hid (Nat.le_trans (wrapB_le ⟨0, 16, true⟩ ls.flatten) (show ls.flatten.length + 9 ≤ 2000 by omega))
  have LSb := Lib.hid (Nat.le_trans (wrapB_le ⟨0, 17, true⟩ (ordO ls).flatten) (show (ordO ls).flatten.length + 9 ≤ 2000 by omega))
  have LSc := Lib.hid (Nat.le_trans (wrpV_le ⟨2, x, true⟩ ls.flatten) (show ls.flatten.length + 9 ≤ 2000 by omega))
  have LSd := Lib.hid (Nat.le_trans (impV_le x bl) (show bl.length + 9 ≤ 2000 by have := h1.len; omega))
  clear hm hN hfl hsh hss h h0 h1 hsh2
  have KF : Hid (Calls Try.prog 10 #[.slice A n0 c] w (NL w N ls)) := by
    refine hF.out.mono ?_
    intro e w1 hh
    obtain ⟨v, vs, rfl, hrow, hvs, hb1⟩ := hF2.out _ _ hh
    obtain ⟨A1, c1, rfl, _, hbss⟩ := bss_own hrow (hvs.keep fun A n l hb => hb.below hb1)
    exact ⟨A1, c1, rfl, hbss, hb1⟩
  have lFL : ls.flatten.length ≤ 1000 := hflb
  have lbl : bl.length ≤ 1000 := by have := HW.out.len; omega
  have KJ : Hid (∀ A c W, Bss W A N ls → Calls Try.prog 23 #[.slice A N c] W (N1 W ls.flatten)) := fun A c W hb => (refJoin A N c ls W hb (by omega) (by omega)).mono fun _ _ => n1_of
  have KS : Hid (∀ A c W, Bss W A N ls → Calls Try.prog 24 #[.slice A N c] W (N2 W (wrapB ⟨0, 16, true⟩ ls.flatten) 0)) := fun A c W hb => (bdSequence A N c ls W hb (by omega) (by omega) HSH.out).mono fun _ _ => n2_of
  have KT : Hid (∀ A c W, Bss W A N ls → Calls Try.prog 25 #[.slice A N c] W (N2 W (wrapB ⟨0, 17, true⟩ (ordO ls).flatten) 0)) := fun A c W hb => (bdSetOf A N c ls W hb (by omega) (by omega) HSH.out).mono fun _ _ => n2_of
  have KE : Hid (∀ A c W, Bss W A N ls → Calls Try.prog 26 #[.int .i64 x, .slice A N c] W (N2 W (wrpV ⟨2, x, true⟩ ls.flatten).1 (wrpV ⟨2, x, true⟩ ls.flatten).2)) := fun A c W hb => (bdExplicit x A N c ls W hb (by omega) (by omega) HSH.out).mono fun _ _ h => n2_elem (WrapOk.elem h)
  have KI : Hid (∀ W, Bs W B m bl → Calls Try.prog 27 #[.int .i64 x, .slice B m d] W (N2 W (impV x bl).1 (impV x bl).2)) := fun W hb => (bdImplicit x B m d bl W hb (by omega)).mono fun _ _ h => n2_elem (ImpOk.form h)
  have KA : Hid (∀ W, Calls Try.prog 29 #[.int .i64 x, .bool true] W fun e w' => e = .returned (.agg #[.int .i64 2, .int .i64 x, .bool true]) ∧ Below W.heap.size W w') := fun W => refAt x true W
  have KX : Hid (∀ X y z W, Bs W X y ls.flatten → Calls Try.prog 28 #[.agg #[.int .i64 2, .int .i64 x, .bool true], .slice X y z] W (N2 W (wrpV ⟨2, x, true⟩ ls.flatten).1 (wrpV ⟨2, x, true⟩ ls.flatten).2)) := fun X y z W hb => (ref8Wrap ⟨2, x, true⟩ X y z ls.flatten W hb (by have := hb.len; omega)).mono fun _ _ h => n2_elem (RwrOk.elem h)
  have KY : Hid (∀ W, Bs W B m bl → Calls Try.prog 30 #[.int .i64 x, .slice B m d] W (N2 W (impV x bl).1 (impV x bl).2)) := fun W hb => (ref8Implicit x B m d bl W hb hmd (by omega)).mono fun _ _ h => n2_elem (RimOk.form h)
  have KN := Lib.hid known8
  have K16 : Hid (∀ W, Calls Try.prog 32 #[.int .i64 16] W fun e w' => e = .returned (.agg #[.int .i64 0, .int .i64 16, .bool true]) ∧ Below W.heap.size W w') := fun W => refOf 16 W
  have K17 : Hid (∀ W, Calls Try.prog 32 #[.int .i64 17] W fun e w' => e = .returned (.agg #[.int .i64 0, .int .i64 17, .bool true]) ∧ Below W.heap.size W w') := fun W => refOf 17 W
  have KW : Hid (∀ X y z W, Bs W X y ls.flatten → Calls Try.prog 31 #[.agg #[.int .i64 0, .int .i64 16, .bool true], .slice X y z] W (N1 W (wrapB ⟨0, 16, true⟩ ls.flatten))) := fun X y z W hb => (refWrap ⟨0, 16, true⟩ X y z ls.flatten W ((Tg.rightB_iff _).1 (by decide)) hb (by have := hb.len; omega)).mono fun _ _ => n1_of
  have KV : Hid (∀ X y z W, Bs W X y (ordO ls).flatten → Calls Try.prog 31 #[.agg #[.int .i64 0, .int .i64 17, .bool true], .slice X y z] W (N1 W (wrapB ⟨0, 17, true⟩ (ordO ls).flatten))) := fun X y z W hb => (refWrap ⟨0, 17, true⟩ X y z (ordO ls).flatten W ((Tg.rightB_iff _).1 (by decide)) hb (by have := hb.len; omega)).mono fun _ _ => n1_of
  have KO : Hid (∀ A c W, Bss W A N ls → Calls Try.prog 33 #[.slice A N c] W (NL W N (ordO ls))) := fun A c W hb => (ref8Order A N c ls W hb (by omega) HSH.out).mono fun e w' h => by
    obtain ⟨vo, us, he, hro, hvo, hb'⟩ := h
    obtain ⟨A9, c9, rfl, _, hb9⟩ := bss_own hro (hvo.keep fun A n l h => h.below hb')
    rw [hb.len] at he hb9
    exact ⟨A9, c9, he, hb9, hb'⟩
  have KJO : Hid (∀ A c W, Bss W A N (ordO ls) → Calls Try.prog 23 #[.slice A N c] W (N1 W (ordO ls).flatten)) := fun A c W hb => (refJoin A N c (ordO ls) W hb (by omega) (by omega)).mono fun _ _ => n1_of
  have KM := Lib.hid same_of
  have LA := Lib.hid (show (wrapB ⟨0, 16, true⟩ ls.flatten).length ≤ 5000 by have := LSa.out; omega)
  have LB := Lib.hid (show (wrapB ⟨0, 17, true⟩ (ordO ls).flatten).length ≤ 5000 by have := LSb.out; omega)
  have LC := Lib.hid (show (wrpV ⟨2, x, true⟩ ls.flatten).1.length ≤ 5000 by have := LSc.out; omega)
  have LD := Lib.hid (show (impV x bl).1.length ≤ 5000 by have := LSd.out; omega)
  clear hF hF2 LSa LSb LSc LSd lFL lbl hsl hflb hfo hlo
  generalize wrapB ⟨0, 16, true⟩ ls.flatten = SA at *
  generalize wrapB ⟨0, 17, true⟩ (ordO ls).flatten = SB at *
  generalize (wrpV ⟨2, x, true⟩ ls.flatten).1 = SC at *
  generalize (wrpV ⟨2, x, true⟩ ls.flatten).2 = EC at *
  generalize (impV x bl).1 = SD at *
  generalize (impV x bl).2 = ED at *
  generalize (ordO ls).flatten = FO at *
  generalize ls.flatten = FL at *
  generalize ordO ls = lo at *
  clear HSH
  go_enter Try.func4, Try.ntmps4
  go_wp2_with fail
  refine (KF.out).mono ?_
  rintro e v1 ⟨A1, c1, rfl, hbx, hb⟩
  have T1 := Lib.hid (hb)
  have HW := Lib.hid (HW.out.below hb)
  have L := Lib.hid hbx
  clear hb hbx
  go_wp2_with fail
  refine (KJ.out _ _ _ L.out).mono ?_
  rintro e v2 ⟨X1, y1, z1, rfl, hbx, hb⟩
  have T2 := Lib.hid (below_st T1.out hb)
  have HW := Lib.hid (HW.out.below hb)
  have L := Lib.hid (L.out.below hb)
  have J := Lib.hid hbx
  clear hb hbx
  clear T1
  go_wp2_with fail
  refine (KS.out _ _ _ L.out).mono ?_
  rintro e v3 ⟨X2, y2, z2, rfl, hbx, hb⟩
  have T3 := Lib.hid (below_st T2.out hb)
  have HW := Lib.hid (HW.out.below hb)
  have L := Lib.hid (L.out.below hb)
  have J := Lib.hid (J.out.below hb)
  have S2 := Lib.hid hbx
  clear hb hbx
  clear T2
  go_wp2_with fail
  refine (KT.out _ _ _ L.out).mono ?_
  rintro e v4 ⟨X3, y3, z3, rfl, hbx, hb⟩
  have T4 := Lib.hid (below_st T3.out hb)
  have HW := Lib.hid (HW.out.below hb)
  have L := Lib.hid (L.out.below hb)
  have J := Lib.hid (J.out.below hb)
  have S2 := Lib.hid (S2.out.below hb)
  have S3 := Lib.hid hbx
  clear hb hbx
  clear T3
  go_wp2_with fail
  refine (KE.out _ _ _ L.out).mono ?_
  rintro e v5 ⟨X4, y4, z4, rfl, hbx, hb⟩
  have T5 := Lib.hid (below_st T4.out hb)
  have HW := Lib.hid (HW.out.below hb)
  have L := Lib.hid (L.out.below hb)
  have J := Lib.hid (J.out.below hb)
  have S2 := Lib.hid (S2.out.below hb)
  have S3 := Lib.hid (S3.out.below hb)
  have S4 := Lib.hid hbx
  clear hb hbx
  clear T4
  go_wp2_with fail
  refine (KI.out _ HW.out).mono ?_
  rintro e v6 ⟨X5, y5, z5, rfl, hbx, hb⟩
  have T6 := Lib.hid (below_st T5.out hb)
  have HW := Lib.hid (HW.out.below hb)
  have L := Lib.hid (L.out.below hb)
  have J := Lib.hid (J.out.below hb)
  have S2 := Lib.hid (S2.out.below hb)
  have S3 := Lib.hid (S3.out.below hb)
  have S4 := Lib.hid (S4.out.below hb)
  have S5 := Lib.hid hbx
  clear hb hbx
  clear T5
  go_wp2_with fail
  refine (KA.out _).mono ?_
  rintro e v7 ⟨rfl, hb⟩
  have T7 := Lib.hid (below_st T6.out hb)
  have HW := Lib.hid (HW.out.below hb)
  have L := Lib.hid (L.out.below hb)
  have J := Lib.hid (J.out.below hb)
  have S2 := Lib.hid (S2.out.below hb)
  have S3 := Lib.hid (S3.out.below hb)
  have S4 := Lib.hid (S4.out.below hb)
  have S5 := Lib.hid (S5.out.below hb)
  clear hb
  clear T6
  go_wp2_with fail
  refine (KX.out _ _ _ _ J.out).mono ?_
  rintro e v8 ⟨X6, y6, z6, rfl, hbx, hb⟩
  have T8 := Lib.hid (below_st T7.out hb)
  have HW := Lib.hid (HW.out.below hb)
  have L := Lib.hid (L.out.below hb)
  have J := Lib.hid (J.out.below hb)
  have S2 := Lib.hid (S2.out.below hb)
  have S3 := Lib.hid (S3.out.below hb)
  have S4 := Lib.hid (S4.out.below hb)
  have S5 := Lib.hid (S5.out.below hb)
  have S6 := Lib.hid hbx
  clear hb hbx
  clear T7
  go_wp2_with fail
  refine (KY.out _ HW.out).mono ?_
  rintro e v9 ⟨X7, y7, z7, rfl, hbx, hb⟩
  have T9 := Lib.hid (below_st T8.out hb)
  have HW := Lib.hid (HW.out.below hb)
  have L := Lib.hid (L.out.below hb)
  have J := Lib.hid (J.out.below hb)
  have S2 := Lib.hid (S2.out.below hb)
  have S3 := Lib.hid (S3.out.below hb)
  have S4 := Lib.hid (S4.out.below hb)
  have S5 := Lib.hid (S5.out.below hb)
  have S6 := Lib.hid (S6.out.below hb)
  have S7 := Lib.hid hbx
  clear hb hbx
  clear T8
  go_wp2_with fail
  refine (KN.out _).mono ?_
  rintro e v10 ⟨rfl, hb⟩
  have T10 := Lib.hid (below_st T9.out hb)
  have HW := Lib.hid (HW.out.below hb)
  have L := Lib.hid (L.out.below hb)
  have J := Lib.hid (J.out.below hb)
  have S2 := Lib.hid (S2.out.below hb)
  have S3 := Lib.hid (S3.out.below hb)
  have S4 := Lib.hid (S4.out.below hb)
  have S5 := Lib.hid (S5.out.below hb)
  have S6 := Lib.hid (S6.out.below hb)
  have S7 := Lib.hid (S7.out.below hb)
  clear hb
  clear T9
  go_wp2_with fail
  refine (K16.out _).mono ?_
  rintro e v11 ⟨rfl, hb⟩
  have T11 := Lib.hid (below_st T10.out hb)
  have HW := Lib.hid (HW.out.below hb)
  have L := Lib.hid (L.out.below hb)
  have J := Lib.hid (J.out.below hb)
  have S2 := Lib.hid (S2.out.below hb)
  have S3 := Lib.hid (S3.out.below hb)
  have S4 := Lib.hid (S4.out.below hb)
  have S5 := Lib.hid (S5.out.below hb)
  have S6 := Lib.hid (S6.out.below hb)
  have S7 := Lib.hid (S7.out.below hb)
  clear hb
  clear T10
  go_wp2_with fail
  refine (KW.out _ _ _ _ J.out).mono ?_
  rintro e v12 ⟨X8, y8, z8, rfl, hbx, hb⟩
  have T12 := Lib.hid (below_st T11.out hb)
  have HW := Lib.hid (HW.out.below hb)
  have L := Lib.hid (L.out.below hb)
  have J := Lib.hid (J.out.below hb)
  have S2 := Lib.hid (S2.out.below hb)
  have S3 := Lib.hid (S3.out.below hb)
  have S4 := Lib.hid (S4.out.below hb)
  have S5 := Lib.hid (S5.out.below hb)
  have S6 := Lib.hid (S6.out.below hb)
  have S7 := Lib.hid (S7.out.below hb)
  have S8 := Lib.hid hbx
  clear hb hbx
  clear T11
  go_wp2_with fail
  refine (KM.out SA _ _ _ _ _ _ _ S2.out S8.out LA.out).mono ?_
  rintro e v13 ⟨rfl, hb⟩
  have T13 := Lib.hid (below_st T12.out hb)
  have HW := Lib.hid (HW.out.below hb)
  have L := Lib.hid (L.out.below hb)
  have J := Lib.hid (J.out.below hb)
  have S2 := Lib.hid (S2.out.below hb)
  have S3 := Lib.hid (S3.out.below hb)
  have S4 := Lib.hid (S4.out.below hb)
  have S5 := Lib.hid (S5.out.below hb)
  have S6 := Lib.hid (S6.out.below hb)
  have S7 := Lib.hid (S7.out.below hb)
  have S8 := Lib.hid (S8.out.below hb)
  clear hb
  clear T12
  go_wp2_with fail
  refine (K17.out _).mono ?_
  rintro e v14 ⟨rfl, hb⟩
  have T14 := Lib.hid (below_st T13.out hb)
  have HW := Lib.hid (HW.out.below hb)
  have L := Lib.hid (L.out.below hb)
  have J := Lib.hid (J.out.below hb)
  have S2 := Lib.hid (S2.out.below hb)
  have S3 := Lib.hid (S3.out.below hb)
  have S4 := Lib.hid (S4.out.below hb)
  have S5 := Lib.hid (S5.out.below hb)
  have S6 := Lib.hid (S6.out.below hb)
  have S7 := Lib.hid (S7.out.below hb)
  have S8 := Lib.hid (S8.out.below hb)
  clear hb
  clear T13
  go_wp2_with fail
  refine (KO.out _ _ _ L.out).mono ?_
  rintro e v15 ⟨A9, c9, rfl, hbx, hb⟩
  have T15 := Lib.hid (below_st T14.out hb)
  have HW := Lib.hid (HW.out.below hb)
  have L := Lib.hid (L.out.below hb)
  have J := Lib.hid (J.out.below hb)
  have S2 := Lib.hid (S2.out.below hb)
  have S3 := Lib.hid (S3.out.below hb)
  have S4 := Lib.hid (S4.out.below hb)
  have S5 := Lib.hid (S5.out.below hb)
  have S6 := Lib.hid (S6.out.below hb)
  have S7 := Lib.hid (S7.out.below hb)
  have S8 := Lib.hid (S8.out.below hb)
  have LO := Lib.hid hbx
  clear hb hbx
  clear T14
  go_wp2_with fail
  refine (KJO.out _ _ _ LO.out).mono ?_
  rintro e v16 ⟨X9, y9, z9, rfl, hbx, hb⟩
  have T16 := Lib.hid (below_st T15.out hb)
  have HW := Lib.hid (HW.out.below hb)
  have L := Lib.hid (L.out.below hb)
  have J := Lib.hid (J.out.below hb)
  have S2 := Lib.hid (S2.out.below hb)
  have S3 := Lib.hid (S3.out.below hb)
  have S4 := Lib.hid (S4.out.below hb)
  have S5 := Lib.hid (S5.out.below hb)
  have S6 := Lib.hid (S6.out.below hb)
  have S7 := Lib.hid (S7.out.below hb)
  have S8 := Lib.hid (S8.out.below hb)
  have LO := Lib.hid (LO.out.below hb)
  have JO := Lib.hid hbx
  clear hb hbx
  clear T15
  go_wp2_with fail
  refine (KV.out _ _ _ _ JO.out).mono ?_
  rintro e v17 ⟨Xa, ya, za, rfl, hbx, hb⟩
  have T17 := Lib.hid (below_st T16.out hb)
  have HW := Lib.hid (HW.out.below hb)
  have L := Lib.hid (L.out.below hb)
  have J := Lib.hid (J.out.below hb)
  have S2 := Lib.hid (S2.out.below hb)
  have S3 := Lib.hid (S3.out.below hb)
  have S4 := Lib.hid (S4.out.below hb)
  have S5 := Lib.hid (S5.out.below hb)
  have S6 := Lib.hid (S6.out.below hb)
  have S7 := Lib.hid (S7.out.below hb)
  have S8 := Lib.hid (S8.out.below hb)
  have LO := Lib.hid (LO.out.below hb)
  have JO := Lib.hid (JO.out.below hb)
  have Sa := Lib.hid hbx
  clear hb hbx
  clear T16
  go_wp2_with fail
  refine (KM.out SB _ _ _ _ _ _ _ S3.out Sa.out LB.out).mono ?_
  rintro e v18 ⟨rfl, hb⟩
  have T18 := Lib.hid (below_st T17.out hb)
  have HW := Lib.hid (HW.out.below hb)
  have L := Lib.hid (L.out.below hb)
  have J := Lib.hid (J.out.below hb)
  have S2 := Lib.hid (S2.out.below hb)
  have S3 := Lib.hid (S3.out.below hb)
  have S4 := Lib.hid (S4.out.below hb)
  have S5 := Lib.hid (S5.out.below hb)
  have S6 := Lib.hid (S6.out.below hb)
  have S7 := Lib.hid (S7.out.below hb)
  have S8 := Lib.hid (S8.out.below hb)
  have LO := Lib.hid (LO.out.below hb)
  have JO := Lib.hid (JO.out.below hb)
  have Sa := Lib.hid (Sa.out.below hb)
  clear hb
  clear T17
  go_wp2_with fail
  refine (KM.out SC _ _ _ _ _ _ _ S4.out S6.out LC.out).mono ?_
  rintro e v19 ⟨rfl, hb⟩
  have T19 := Lib.hid (below_st T18.out hb)
  have HW := Lib.hid (HW.out.below hb)
  have L := Lib.hid (L.out.below hb)
  have J := Lib.hid (J.out.below hb)
  have S2 := Lib.hid (S2.out.below hb)
  have S3 := Lib.hid (S3.out.below hb)
  have S4 := Lib.hid (S4.out.below hb)
  have S5 := Lib.hid (S5.out.below hb)
  have S6 := Lib.hid (S6.out.below hb)
  have S7 := Lib.hid (S7.out.below hb)
  have S8 := Lib.hid (S8.out.below hb)
  have LO := Lib.hid (LO.out.below hb)
  have JO := Lib.hid (JO.out.below hb)
  have Sa := Lib.hid (Sa.out.below hb)
  clear hb
  clear T18
  go_wp2_with fail
  refine (KM.out SD _ _ _ _ _ _ _ S5.out S7.out LD.out).mono ?_
  rintro e v20 ⟨rfl, hb⟩
  have T20 := Lib.hid (below_st T19.out hb)
  have HW := Lib.hid (HW.out.below hb)
  have L := Lib.hid (L.out.below hb)
  have J := Lib.hid (J.out.below hb)
  have S2 := Lib.hid (S2.out.below hb)
  have S3 := Lib.hid (S3.out.below hb)
  have S4 := Lib.hid (S4.out.below hb)
  have S5 := Lib.hid (S5.out.below hb)
  have S6 := Lib.hid (S6.out.below hb)
  have S7 := Lib.hid (S7.out.below hb)
  have S8 := Lib.hid (S8.out.below hb)
  have LO := Lib.hid (LO.out.below hb)
  have JO := Lib.hid (JO.out.below hb)
  have Sa := Lib.hid (Sa.out.below hb)
  clear hb
  clear T19
  go_wp2
  go_ret
  exact ⟨rfl, T20.out⟩
end Go.Proofs.Ytpcpaopnofakhaa
